import Derived.Test.YtgkljcmjnphpeaaGreatDoorK03
import Derived.Test.YtgkljcmjnphpeaaGreatDoorK11
set_option linter.defProp false
set_option linter.unusedVariables false
set_option linter.unusedSimpArgs false
set_option maxHeartbeats 4000000
set_option maxRecDepth 100000
open List renaming length->G
open Go renaming Value->GI,World->Gr,Calls->K8,Addr->L2
open Go.Value renaming int->I,string->MV,agg->N1,bool->OV,slice->Z
open Go.RowKit renaming Hid->L1,Below->LT
open Option renaming none->N,some->O
open Bool renaming false->P2,true->PV
open Go.Obj renaming cells->Pp
open Go.Ending renaming returned->Ps
open Go.Proofs.Tryz renaming prog->Qe
open Go.IntKind renaming i64->U
open Go.Proofs.Tryz
namespace Go.Proofs.YtgkljcmjnphpeaaGreatDoor
open Go.RowKit
def j_:(k:Nat)->VT k->Nat
 |0,_=>1
 |k+1,V=>1+((gk.items (α:=VT k) V).map (j_ k)).sum
def ly(a:Nat):(k:Nat)->VT k->Bool
 |0,_=>PV
 |k+1,V=> !(decide (gk.kind (α:=VT k) V=8/\1<12-k)) && !(decide (gk.kind (α:=VT k) V=9/\¬(1<=gk.n (α:=VT k) V/\gk.n (α:=VT k) V<=(a:Int))))&&j9 (α:=VT k) V&&kA (α:=VT k) V&&(gk.items (α:=VT k) V).all (ly a k)
def zh:∀(k:Nat) (a:VT k),1<=j_ k a
 |0,_=>ag _
 |k+1,a=>by unfold j_;omega
def uz{k:Nat}:∀a:List (VT k),G a<=(a.map (j_ k)).sum
 | []=>eA
 |b::a=>by have:=uz a;have:=zh k b;simp only[bF,eF,aj];omega
def uV(d:Nat):∀(k:Nat) (c:List (VT k)) (e:Nat),e<=2000 ->kg d k e c=if(c.all (ly d k))=PV/\e+(c.map (j_ k)).sum<=2000+G c then O (e+(c.map (j_ k)).sum-G c)else N
 |0,c,e,j=>by
  have h1:(c.map (j_ 0)).sum=G c:=by
   induction c with
   |nil=>rfl
   |cons g c r=>simp only[bF,eF,aj,r];unfold j_;omega
  have h2:c.all (ly d 0)=PV:=by rw[cN];intro u _;rfl
  rw[h1,h2,ai ⟨rfl,Y⟩];unfold kg;congr 1;omega
 |k+1,[],e,j=>by unfold kg;simp only[List.all_nil,dY,List.sum_nil,aI];rw[ai ⟨trivial,Y⟩];rfl
 |k+1,a::c,e,j=>by
  have q:kg d (k+1) e (a::c)=(if lz (α:=VT k) d (12-k) e a=PV then kg d k (e+(gk.items (α:=VT k) a).length) (gk.items (α:=VT k) a)else N).bind λl=>kg d (k+1) l c:=rfl;rw[q];have o:j_ (k+1) a=1+((gk.items (α:=VT k) a).map (j_ k)).sum:=rfl;have p:ly d (k+1) a=(!(decide (gk.kind (α:=VT k) a=8/\1<12-k)) && !(decide (gk.kind (α:=VT k) a=9/\¬(1<=gk.n (α:=VT k) a/\gk.n (α:=VT k) a<=(d:Int))))&&j9 (α:=VT k) a&&kA (α:=VT k) a&&(gk.items (α:=VT k) a).all (ly d k)):=rfl;have h1:lz (α:=VT k) d (12-k) e a=(decide (e+(gk.items (α:=VT k) a).length<=2000)&&(!(decide (gk.kind (α:=VT k) a=8/\1<12-k)) && !(decide (gk.kind (α:=VT k) a=9/\¬(1<=gk.n (α:=VT k) a/\gk.n (α:=VT k) a<=(d:Int))))&&j9 (α:=VT k) a&&kA (α:=VT k) a)):=by unfold lz;simp only[Bool.and_assoc]
  rw[cZ,p,h1,bF,eF,o,aj];generalize (!(decide (gk.kind (α:=VT k) a=8/\1<12-k)) && !(decide (gk.kind (α:=VT k) a=9/\¬(1<=gk.n (α:=VT k) a/\gk.n (α:=VT k) a<=(d:Int))))&&j9 (α:=VT k) a&&kA (α:=VT k) a)=m;have s:=uz (gk.items (α:=VT k) a);have t:=uz c;cases m with
  |false=>simp
  |true=>
   by_cases h2:e+(gk.items (α:=VT k) a).length<=2000
   ·rw[aB h2,Bool.and_true,ai rfl,uV d k _ _ h2,bX];cases h3:(gk.items (α:=VT k) a).all (ly d k)with
    |false=>simp
    |true=>
     generalize ((gk.items (α:=VT k) a).map (j_ k)).sum=g at *;generalize (gk.items (α:=VT k) a).length=b at *;by_cases i:e+b+g<=2000+b
     ·rw[ai ⟨rfl,i⟩,Option.bind_some,uV d (k+1) c _ Y];rw[bX];by_cases f:(c.all (ly d (k+1)))=PV/\e+(1+g+(c.map (j_ (k+1))).sum)<=2000+(G c+1);·rw[ai f,ai ⟨f.1,Y⟩];congr 1;omega
      ·rw[ah f,ah (λh=>f ⟨h.1,Y⟩)]
     ·rw[ah (λh=>i h.2),ah (λh=>i Y)];rfl
   ·rw[ar h2,Bool.false_and,ah eA,ah (λh=>h2 Y)];rfl
def qL(a:List (VT 12))(b:Int):jb a b=(decide (1<=G a/\G a<=100)&&decide (1<=b/\b<=(G a:Int))&&decide ((a[(b-1).toNat]?).map (λc:VT 12=>gk.kind (α:=VT 11) c)=O 7)&&(a.all (ly (G a) 12)&&decide ((a.map (j_ 12)).sum<=2000))):=by
 unfold jb;by_cases h:G a<=100
 ·rw[uV _ _ _ _ Y];congr 1;by_cases h2:(a.all (ly (G a) 12))=PV/\G a+(a.map (j_ 12)).sum<=2000+G a;·rw[ai h2,h2.1,aB Y];rfl
  ·rw[ah h2];cases h3:a.all (ly (G a) 12)with
   |false=>rfl
   |true=>rw[ar (λd=>h2 ⟨h3,Y⟩)];rfl
 ·rw[ar (λh2=>h h2.2)];rfl
section
variable{w b:Gr}
def MK(a:ByteArray):jo a=(decide (a.size<=60)&&decide (∀c,c<a.size->nth (bl a) c≠0)):=by
 unfold jo;congr 1;rw[bC];simp only[Bool.not_eq_true',bT,List.contains_eq_mem,bk];have i:(0:UInt8)∈a.data.toList↔(0:Nat)∈bl a:=by
  unfold bl;rw[cT];constructor;·intro h;exact⟨0,h,rfl⟩
  ·rintro⟨f,h,d⟩;have:f=0:=UInt8.toNat_inj.1 (by rw[d];rfl);rw[<-this];exact h
 rw[i];constructor
 ·intro h c e d;apply h;rw[<-d,show nth (bl a) c=(bl a)[c]'(by rw[mK];exact e)by simp[nth,show c<(bl a).length by rw[mK];exact e]];exact cq _
 ·intro h g;obtain⟨c,e,d⟩:=cK g;refine h c (by rw[<-mK];exact e) ?_;rw[show nth (bl a) c=(bl a)[c]by simp[nth,e],d]
def Dl(a:ByteArray)(t:a.size<=300000)(w:Gr):K8 Qe 119 #[MV a] w λq b=>q=Ps (OV (jo a))/\b=w:=by
 rw[MK]
 go_in
 go_wp2;go_loopw [3] (λi wr=>∃d:Nat,d<=a.size/\i=I U (d:Nat)/\wr=w/\L1 (∀c,c<d->nth (bl a) c≠0)) (λi _=>a.size-(intOf i).toNat)
 case atStart=>exact⟨0,Y,rfl,rfl,λc l=>absurd l (Nat.not_lt_zero _)⟩
 case round=>
  obtain⟨d,r,rfl,rfl,j⟩:=hrel;rcases aV r with k|g
  ·have e:L1 (decide (∀c,c<a.size->nth (bl a) c≠0)=PV):=by unfold Hid;rw[cm];rw[<-k];exact j
   have p:¬(d:Int)<a.size:=Y;have m:L1 (decide ((a.size:Int)<=60)=decide (a.size<=60)):=by unfold Hid;rw[cJ];omega
   clear k;go_wp2;go_ret;rw[e.o,Bool.and_true];exact⟨by rw[<-m.o];rfl,rfl⟩
  ·have p:(d:Int)<a.size:=Y;have v:=s8 a d g;have u:=lN a d g;cases f:((nth (bl a) d:Int)==0)with
   |true=>
    have e:L1 (decide (∀c,c<a.size->nth (bl a) c≠0)=P2):=by unfold Hid;rw[bk];intro h;exact h d g (by simp at f;omega)
    go_wp2;go_ret;rw[e.o,Bool.and_false];exact⟨rfl,rfl⟩
   |false=>
    have n:L1 (∀c,c<d+1->nth (bl a) c≠0):=λc l=>by
     by_cases h:c<d;·exact j c h
     ·have:c=d:=Y;subst this;intro s;simp at f;exact f (by rw[s])
    go_wp2;go_roundw
    case rel=>exact⟨d+1,Y,rfl,trivial,n⟩
    case measure=>simp[intOf];omega
def q_(w:Gr)(d:Option L2)(c:List (List Nat)):Prop:=∀a,a<G c->∃g,d=O ⟨g,0,N⟩/\w.cell? ⟨g,a,N⟩=O (MV (ge (c.getD a [])))
def q_.of{P:Nat->Prop}{i:Option L2}{k:Nat}{a:List (List Nat)}(h:jz P w 9 1 (Z i (G a) k) (G a) (a.map λl=>MV (ge l))):q_ w i a:=by intro f d;obtain⟨g,c,j,m⟩:=uH h.1 Y;cases j;refine⟨g,rfl,?_⟩;have e:=h.1.cells (g:=g) rfl f (MV (ge (a.getD f []))) (by rw[aY,af d];simp[ax,af d]);rw[pR]at e;exact e
def vT(c:List (List Nat))(d:Nat):Prop:=(∀a,a<d->jo (ge (c.getD a []))=PV)/\∀a k,k<a->a<d->ge (c.getD k [])≠ge (c.getD a [])
def Bf{c:List (List Nat)}{a:Nat}(h:a<G c):c.getD a []=c[a]:=by rw[ax,af h];rfl
def LA{c:List (List Nat)}{f:Nat}(h:vT c (G c)):jt c f=decide (G c=f):=by
 unfold jt;have h1:(c.all λg=>jo (ge g))=PV:=by rw[cN];intro g j;obtain⟨d,a,rfl⟩:=cK j;have:=h.1 d a;rw[Bf a]at this;exact this
 have h2:(c.map ge).Nodup:=by rw[List.nodup_iff_pairwise_ne,List.pairwise_iff_getElem];intro k d e a i;rw[aw]at e a;have:=h.2 d k i a;rw[Bf e,Bf a]at this;simpa using this
 rw[h1,aB h2];simp
def Lz{a:List (List Nat)}{e c:Nat}(d:c<G a)(h:jo (ge (a.getD c []))=P2):jt a e=P2:=by
 unfold jt;have h1:(a.all λf=>jo (ge f))=P2:=by rw[List.all_eq_false];exact⟨a[c],cq d,by rw[Bf d]at h;simp[h]⟩
 rw[h1];simp
def Ly{a:List (List Nat)}{g c k:Nat}(d:c<G a)(e:k<c)(h:ge (a.getD k [])=ge (a.getD c [])):jt a g=P2:=by
 unfold jt;have h2:¬(a.map ge).Nodup:=by rw[List.nodup_iff_pairwise_ne,List.pairwise_iff_getElem];intro f;have:=f k c (by rw[aw];omega) (by rw[aw];exact d) e;rw[Bf d,Bf (show k<G a by omega)]at h;exact this oT
 rw[ar h2];simp
def JG{ka:Option L2}{kc u:Nat}{d:List (List Nat)}(h:q_ w ka d)(hl:G d<=200001)(hn:u<=200001)(hs:∀a,a<G d->(ge (d.getD a [])).size<=300000):K8 Qe 120 #[Z ka (G d) kc,I U (u:Nat)] w λs b=>s=Ps (OV (jt d u))/\∃j,b=w.drewN j:=by
 obtain⟨r,F⟩:∃r,jt d u=r:=⟨_,rfl⟩;rw[F];have B:=H F;obtain⟨e,M⟩:∃e,G d=e:=⟨_,rfl⟩;have g:=H M;rw[M]at hl ⊢;have V:=H h;have HS:=H hs;clear F M h hs
 go_in
 go_wp2;go_loopw [5] (λQ wr=>∃a j:Nat,a<=e/\Q=I U (a:Nat)/\wr=w.drewN j/\L1 (vT d a)) (λQ _=>e-(intOf Q).toNat)
 case atStart=>exact⟨0,0,Y,rfl,rfl,⟨λc f=>absurd f (Nat.not_lt_zero _),λc k x f=>absurd f (Nat.not_lt_zero _)⟩⟩
 case round=>
  obtain⟨a,j,hi,rfl,y,A⟩:=hrel;have C:=H y;rcases aV hi with aa|t
  ·have ao:¬(a:Int)<(e:Int):=Y;have n:L1 (r=((e:Int)==(u:Int))):=by unfold Hid;rw[<-B.o,LA (by rw[g.o,<-aa];exact A.o),g.o,bC,cm,beq_iff_eq];omega
   clear aa y;go_wp2;go_ret;rw[n.o];exact⟨rfl,j,C⟩
  ·have ao:(a:Int)<(e:Int):=Y;obtain⟨X,rfl,hc⟩:=V.o a BX;have a1:wr.cell? ⟨X,a,N⟩=O (MV (ge (d.getD a []))):=by rw[y];exact hc
   have p:=H (Dl (ge (d.getD a [])) (HS a BX));obtain⟨l,J⟩:∃l,ge (d.getD a [])=l:=⟨_,rfl⟩;rw[J]at a1 p;have q:=H J;clear hc J y;cases m:jo l with
   |false=>
    rw[m]at p;have n:L1 (r=P2):=by unfold Hid;rw[<-B.o];exact Lz BX (by rw[q.o];exact m)
    clear m;go_wp2_with fail;apply(p _).m;rintro s w1 ⟨rfl,i⟩;have i:=i.s;subst i;go_wp2;go_ret;rw[n.o];exact⟨rfl,j,C⟩
   |true=>
    rw[m]at p;have al:=H m;clear m;go_wp2_with fail;apply(p _).m;rintro s w1 ⟨rfl,i⟩;have i:=i.s;subst i;go_wp2_with fail;go_loopw [7] (λR wx=>∃k z:Nat,k<=a/\R=I U (k:Nat)/\wx=w.drewN z/\L1 (∀c,c<k->ge (d.getD c [])≠l)) (λR _=>a-(intOf R).toNat)
    case atStart=>exact⟨0,j,Y,rfl,C,λc f=>absurd f (Nat.not_lt_zero _)⟩
    case round=>
     obtain⟨k,z,x,rfl,P,T⟩:=hrel;have D:=H P;have S:L1 (∀k,k<e->wr.cell? ⟨X,k,N⟩=O (MV (ge (d.getD k [])))):=λk x=>by obtain⟨g',s,a0⟩:=V.o k (by rw[g.o];exact x);cases s;rw[P];exact a0
     clear P;rcases aV x with L|L
     ·have d2:¬(k:Int)<(a:Int):=Y;have ac:L1 (vT d (a+1)):=by
       refine⟨λc f=>?_,λc k2 a2 f=>?_⟩
       ·by_cases h:c<a;·exact A.1 c h
        ·have:c=a:=Y;rw[this,q.o];exact al
       ·by_cases h:c<a;·exact A.2 c k2 a2 h
        ·have:c=a:=Y;subst this;rw[q.o];exact T k2 Y
      clear L;go_wp2;go_roundw
      case rel=>exact⟨a+1,z,Y,rfl,D,ac⟩
      case measure=>simp[intOf];omega
     ·have d2:(k:Int)<(a:Int):=Y;have d3:(k:Int)<(e:Int):=Y;have q1:=S.o k Y;have q2:=S.o a t;rw[q.o]at q2;obtain⟨E,K⟩:∃E,ge (d.getD k [])=E:=⟨_,rfl⟩;rw[K]at q1;have W:=H K;clear K;cases v:(E.toList==l.toList)with
      |true=>
       have n:L1 (r=P2):=by unfold Hid;rw[<-B.o];refine Ly BX L ?_;rw[W.o,q.o];rw[ng]at v;simpa using v
       go_wp2_with fail;go_quiet (fail);go_wp2;go_ret;rw[n.o];exact⟨rfl,_,by rw[D.o,World.drewN_drewN]⟩
      |false=>
       have ad:L1 (∀c,c<k+1->ge (d.getD c [])≠l):=λc f=>by
        by_cases h:c<k;·exact T c h
        ·have:c=k:=Y;subst this;rw[W.o];rw[ng]at v;simpa using v
       go_wp2_with fail;go_quiet (fail);go_wp2;go_roundw
       case rel=>exact⟨k+1,z+nq,Y,rfl,by rw[D.o,World.drewN_drewN],ad⟩
       case measure=>simp[intOf];omega
def NG(a:Int)(pl:Nat)(l : -9223372036854775808<=a)(m:a<=9223372036854775807)(n:pl<=1000000)(w:Gr):K8 Qe 118 #[I U a,I U (pl:Nat)] w λh b=>h=Ps (OV (ke a pl))/\b=w:=by
 obtain⟨d,g⟩:∃d,ke a pl=d:=⟨_,rfl⟩;rw[g];unfold ke at g;have e:=H g;clear g;by_cases h1:pl<=5
 ·have t1:decide ((pl:Int)<=5)=PV:=eB;by_cases h2 : -999999999<=a
  ·have i:decide (-999999999<=a)=PV:=eB;by_cases h3:a<=999999999
   ·have j:decide (a<=999999999)=PV:=eB;by_cases f:pl=0
    ·have k:((pl:Int)==0)=PV:=eB;have c:L1 (d=PV):=by unfold Hid;rw[<-e.o];simp[f,h2,h3]
     clear f
     go_in
     go_wp2;go_ret;rw[c.o];exact⟨rfl,rfl⟩
    ·have k:((pl:Int)==0)=P2:=eB;have c:L1 (d=(a.tmod 10 != 0)):=by unfold Hid;rw[<-e.o];simp only[ar f,aB h1,aB (show -999999999<=a/\a<=999999999 from⟨h2,h3⟩),Bool.false_or,Bool.and_true];rw[bC];simp
     clear f
     go_in
     go_wp2;all_goals (
      go_ret;rw[c.o];refine⟨?_,rfl⟩;first|rfl|(simp;done)|(simp_all;done))
   ·have j:decide (a<=999999999)=P2:=eB;have c:L1 (d=P2):=by unfold Hid;rw[<-e.o];simp[h3]
    go_in
    go_wp2;go_ret;rw[c.o];exact⟨rfl,rfl⟩
  ·have i:decide (-999999999<=a)=P2:=eB;have c:L1 (d=P2):=by unfold Hid;rw[<-e.o];simp[h2]
   go_in
   go_wp2;go_ret;rw[c.o];exact⟨rfl,rfl⟩
 ·have t1:decide ((pl:Int)<=5)=P2:=eB;have c:L1 (d=P2):=by unfold Hid;rw[<-e.o];simp[h1]
  go_in
  go_wp2;go_ret;rw[c.o];exact⟨rfl,rfl⟩
def BC(a:Nat):Array GI:=#[OV (decide (a=1\/a=2\/a=9\/a=3)),OV (decide (a=3)),OV (decide (a=4\/a=5\/a=8)),OV (decide (a=6\/a=7\/a=8)),OV (decide (a=7\/a=8)),OV (decide (a=8))]
def Gq(a:Nat)(n:a<=100000)(w:Gr):K8 Qe 165 #[I U (a:Nat)] w λe b=>e=Ps (N1 (BC a))/\LT w.heap.size w b:=by
 have d:∀(c:Array GI),LT w.heap.size w (w.alloc (Pp c 169)):=λc=>(aq _ _).alloc (ag _) _;rcases(show a=0\/a=1\/a=2\/a=3\/a=4\/a=5\/a=6\/a=7\/a=8\/a=9\/10<=a by omega)with rfl|rfl|rfl|rfl|rfl|rfl|rfl|rfl|rfl|rfl|h
 rotate_right
 ·have e0:((a:Int)==0)=P2:=eB;have e1:((a:Int)==1)=P2:=eB;have e2:((a:Int)==2)=P2:=eB;have g:((a:Int)==3)=P2:=eB;have e4:((a:Int)==4)=P2:=eB;have i:((a:Int)==5)=P2:=eB;have j:((a:Int)==6)=P2:=eB;have k:((a:Int)==7)=P2:=eB;have l:((a:Int)==8)=P2:=eB;have m:((a:Int)==9)=P2:=eB;have f:BC a=#[OV P2,OV P2,OV P2,OV P2,OV P2,OV P2]:=by unfold BC;simp;omega
  go_in
  go_wp2;exact av (v:=N1 (BC a)) (by rw[f];exact aE results165 _ _ w.heap.size 169 _ _ _ rfl (heap_alloc_new w _) underlying169 rfl aG) rfl ⟨rfl,d _⟩
 all_goals
  go_in
  go_wp2;exact av (v:=N1 (BC _)) (aE results165 _ _ w.heap.size 169 _ _ _ rfl (heap_alloc_new w _) underlying169 rfl aG) rfl ⟨rfl,d _⟩
end
