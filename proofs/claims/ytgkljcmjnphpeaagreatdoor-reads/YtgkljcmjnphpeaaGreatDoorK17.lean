import Derived.Test.YtgkljcmjnphpeaaGreatDoorK16
set_option linter.defProp false
set_option linter.unusedVariables false
set_option linter.unusedSimpArgs false
set_option maxHeartbeats 8000000
set_option maxRecDepth 100000
open List renaming length->G
open Go renaming Value->GI,World->Gr,Calls->K8,Addr->L2,Ending->MB
open Go.Value renaming int->I,pointer->M2,string->MV,agg->N1,bool->OV,tuple->OW,slice->Z
open Go.RowKit renaming Hid->L1,Below->LT
open Option renaming none->N,some->O
open Bool renaming false->P2,true->PV
open Or renaming inl->P3,inr->P4
open Go.Obj renaming cells->Pp
open Go.Ending renaming returned->Ps
open Go.Proofs.Tryz renaming prog->Qe
open Go.IntKind renaming i64->U
open Go.Proofs.Tryz
namespace Go.Proofs.YtgkljcmjnphpeaaGreatDoor
open Go.RowKit
section
variable{C:Nat}{P:Nat->Prop}{S:ByteArray}{w w':Gr}{p:Nat}{s t:Option (List Nat)}
def tQ(a:Option ((VT 12×List Nat)×List Nat)):Prop:=a=N\/∃b c,a=O (b,c)/\4<(gk.filters (α:=VT 11) b.1).length
def BU(C:Nat)(S:ByteArray)(P:Nat->Prop)(c:Option ((VT 12×List Nat)×List Nat))(w:Gr)(f:MB)(w':Gr):Prop:=∃(b:GI) (t:Option (List Nat)),f=Ps b/\mi b/\jP C S w w' t/\((t=N/\tQ c)\/∃(a:VT 12×List Nat) (e:List Nat),c=O (a,e)/\t=O e/\gF (λd=>P d\/w.heap.size<=d) 12 w' b (sT (k:=11) a.1 a.2)/\∀g∈a.2,g<256)
def uh(w:Gr)(P:Nat->Prop)(a:Nat):Prop:=(P a/\a<w.heap.size)\/w.heap.size+2<=a
def uh.ne{a:Nat}(h:uh w P a):a≠w.heap.size/\a≠w.heap.size+1:=by rcases h with h|h<;>omega
structure Sx(w:Gr)(C:Nat)(S:ByteArray)(wx:Gr)(t:Option (List Nat))(A:Array GI):Prop where
 lt:C<w.heap.size
 to_:jP C S w wx t
 b3:wx.heap[w.heap.size]?=O (Pp A 67 (0,0))
 b4:wx.heap[w.heap.size+1]?=O (Pp gG 67 (0,0))
def Sn.onlyS{a b:Gr}{c:Nat}(h:Sn C S a p s)(e:gB c a b)(d:C≠c):Sn C S b p s:=⟨by rw[e.block _ h.lt d];exact h.blk,h.lp,h.ls,h.rest⟩
def Sx.step{b:Gr}{a:Array GI}{t':Option (List Nat)}(h:Sx w C S b t a)(k:jP C S b w' t'):Sx w C S w' t' a:=
 ⟨h.lt,h.to_.t k,by have:=h.lt;rw[k.2.block _ (ae h.b3) Y];exact h.b3,by have:=h.lt;rw[k.2.block _ (ae h.b4) Y];exact h.b4⟩
def Sx.below{a:Gr}{b:Array GI}(h:Sx w C S a t b)(k:LT a.heap.size a w'):Sx w C S w' t b:=by obtain⟨⟨p,c⟩,_⟩:=h.to_;exact h.step ⟨⟨p,c.other k⟩,.of_below k⟩
def Sx.alloc{c:Gr}{a:Array GI}(h:Sx w C S c t a)(b:Obj):Sx w C S (c.alloc b) t a:=h.below ((aq _ _).alloc (ag _) b)
def Sx.only{b:Gr}{c B:Array GI}{g:Nat}(h:Sx w C S b t c)(a:gB g b w')(l:w.heap.size<=g)(h3:w'.heap[w.heap.size]?=O (Pp B 67 (0,0)))(d:g≠w.heap.size+1):Sx w C S w' t B:=by obtain⟨⟨p,i⟩,k⟩:=h.to_;have f:=h.lt;have j:=k.size;exact⟨f,⟨⟨p,i.onlyS a Y⟩,a.os.t k.os,a.tape.t k.tape,a.output.t k.output,aA j a.size,λg h1 h2=>(a.block g Y Y).t (k.block g h1 h2)⟩,h3,by rw[a.block _ (ae h.b4) (λe=>d e.s)];exact h.b4⟩
def Sx.put{c:Gr}{b:Array GI}(h:Sx w C S c t b)(i:Nat)(a:GI):Sx w C S (c.setCell ⟨w.heap.size,i,N⟩ a) t (b.setIfInBounds i a):=
 h.only ((gB.refl _ _).setCell i a) (ag _) (lV _ h.b3) Y
def Sx.set{i:Gr}{m n o q r u v:GI}(h:Sx w C S i t #[m,n,o,q,r,u,v])(a b c d e f g:GI){j:Gr}(l:j=((((((i.setCell ⟨w.heap.size,0,N⟩ a).setCell ⟨w.heap.size,1,N⟩ b).setCell ⟨w.heap.size,2,N⟩ c).setCell ⟨w.heap.size,3,N⟩ d).setCell ⟨w.heap.size,4,N⟩ e).setCell ⟨w.heap.size,5,N⟩ f).setCell ⟨w.heap.size,6,N⟩ g):Sx w C S j t #[a,b,c,d,e,f,g]/\gB w.heap.size i j:=by
 have k:=lX i w.heap.size a b c d e f g;rw[<-l]at k;exact⟨h.only k (ag _) (by rw[l];exact vq h.b3 a b c d e f g) Y,k⟩
def Sx.set2{a:Gr}{B D E F J K L:GI}(h:Sx w C S a t #[B,D,E,F,J,K,L])(e f g i j k l m n o q r u v:GI){c:Gr}(z:c=(((((((((((((((a.alloc (Pp gG 67)).setCell ⟨w.heap.size,0,N⟩ e).setCell ⟨w.heap.size,1,N⟩ f).setCell ⟨w.heap.size,2,N⟩ g).setCell ⟨w.heap.size,3,N⟩ i).setCell ⟨w.heap.size,4,N⟩ j).setCell ⟨w.heap.size,5,N⟩ k).setCell ⟨w.heap.size,6,N⟩ l).setCell ⟨a.heap.size,0,N⟩ m).setCell ⟨a.heap.size,1,N⟩ n).setCell ⟨a.heap.size,2,N⟩ o).setCell ⟨a.heap.size,3,N⟩ q).setCell ⟨a.heap.size,4,N⟩ r).setCell ⟨a.heap.size,5,N⟩ u).setCell ⟨a.heap.size,6,N⟩ v)):Sx w C S c t #[e,f,g,i,j,k,l]/\c.heap[a.heap.size]?=O (Pp #[m,n,o,q,r,u,v] 67 (0,0))/\∀b,b<a.heap.size->b≠w.heap.size->c.heap[b]?=a.heap[b]?:=by
 have R:=ae h.b4;obtain⟨d,A⟩:∃d,d=((((((((a.alloc (Pp gG 67)).setCell ⟨w.heap.size,0,N⟩ e).setCell ⟨w.heap.size,1,N⟩ f).setCell ⟨w.heap.size,2,N⟩ g).setCell ⟨w.heap.size,3,N⟩ i).setCell ⟨w.heap.size,4,N⟩ j).setCell ⟨w.heap.size,5,N⟩ k).setCell ⟨w.heap.size,6,N⟩ l):=⟨_,rfl⟩;obtain⟨s1,y⟩:=(h.alloc (Pp gG 67)).set e f g i j k l A;rw[<-A]at z;have Q:d.heap[a.heap.size]?=O (Pp gG 67 (0,0)):=by rw[y.block _ eA Y];exact bn _ _
 have x:=lX d a.heap.size m n o q r u v;have e2:=pq Q m n o q r u v;rw[<-z]at x e2;have M:=y.size;simp only[aL]at M;refine⟨s1.only x Y (by rw[x.block _ Y Y];exact s1.b3) Y,e2,λb h1 h2=>?_⟩;rw[x.block b Y Y,y.block b eB h2];exact((aq a.heap.size a).alloc (ag _) (Pp gG 67)).block b h1
def gF.kindTo{P:Nat->Prop}{k:Nat}{r g i j a b c:GI}{d:gk (VT k)}(h:gF P (k+1) w (N1 #[r,g,i,j,a,b,c]) d)(f:Nat):gF P (k+1) w (N1 #[I U f,g,i,j,a,b,c]) ({ d with kind:=f }:gk (VT k)):=by obtain⟨v,x,u,q,e,o,m,l,n,hF⟩:=h.parts;simp[nV]at e;obtain⟨rfl,rfl,rfl,rfl,rfl,rfl,rfl⟩:=e;exact⟨a,b,c,q,rfl,o,m,l,n,hF⟩
def gF.textTo{P:Nat->Prop}{k:Nat}{f g i q a b c:GI}{V:gk (VT k)}(h:gF P (k+1) w (N1 #[f,g,i,q,a,b,c]) V)(e:List Nat):gF P (k+1) w (N1 #[f,g,i,MV (ge e),a,b,c]) ({ V with text:=e }:gk (VT k)):=by obtain⟨u,v,r,o,d,n,l,j,m,hF⟩:=h.parts;simp[nV]at d;obtain⟨rfl,rfl,rfl,rfl,rfl,rfl,rfl⟩:=d;exact⟨a,b,c,o,rfl,n,l,j,m,hF⟩
def gF.filtersTo{P:Nat->Prop}{k:Nat}{g i j l c d x:GI}{e:gk (VT k)}(h:gF P (k+1) w (N1 #[g,i,j,l,c,d,x]) e){b:GI}{a:List Nat}(u:jz P w 3 1 b (G a) (a.map λm:Nat=>I U m)):gF P (k+1) w (N1 #[g,i,j,l,c,d,b]) ({ e with filters:=a }:gk (VT k)):=by obtain⟨y,z,b,v,f,r,o,n,q,hF⟩:=h.parts;simp[nV]at f;obtain⟨rfl,rfl,rfl,rfl,rfl,rfl,rfl⟩:=f;exact⟨c,d,_,v,rfl,r,o,n,q,u⟩
structure Sy(w:Gr)(C:Nat)(P:Nat->Prop)(S:ByteArray)(g5 g7:Nat)(D5 D7:Array GI)(F:List (VT 11))(wx:Gr)(t:Option (List Nat))(A:Array GI)(VV:gk (VT 11)):Prop where
 sx:Sx w C S wx t A
 hb:∀g,P g->C≠g
 h5:w.heap.size+2<=g5
 h7:w.heap.size+2<=g7
 d5:wx.heap[g5]?=O (Pp D5 67 (0,0))
 d7:wx.heap[g7]?=O (Pp D7 67 (0,0))
 vin:gF (uh w P) 12 wx (N1 A) VV
 fnd:mU (uh w P) 11 wx (N1 D7) F
section
variable{f j:Nat}{b c:Array GI}{F:List (VT 11)}{a:Gr}{A:Array GI}{d:gk (VT 11)}
def Sy.step{t':Option (List Nat)}(h:Sy w C P S f j b c F a t A d)(k:jP C S a w' t'):Sy w C P S f j b c F w' t' A d:=by have o:=h.sx.lt;have h1:=h.h5;have h2:=h.h7;have h3:=h.hb;have i:∀e,uh w P e->e<a.heap.size->w'.heap[e]?=a.heap[e]?:=λe g m=>k.2.block e m (by rcases g with g|g;exact λl=>h3 e g.1 l.s;omega);exact⟨h.sx.step k,h3,h1,h2,by rw[k.2.block _ (ae h.d5) Y];exact h.d5,by rw[k.2.block _ (ae h.d7) Y];exact h.d7,gF.keep 12 h.vin i,h.fnd.imp λy n=>gF.keep 11 n i⟩
def Sy.put(h:Sy w C P S f j b c F a t A d)(i:Nat)(e:GI){l:gk (VT 11)}(q:gF (uh w P) 12 a (N1 (A.setIfInBounds i e)) l):Sy w C P S f j b c F (a.setCell ⟨w.heap.size,i,N⟩ e) t (A.setIfInBounds i e) l:=by have h1:=h.h5;have h2:=h.h7;have k:gB w.heap.size a (a.setCell ⟨w.heap.size,i,N⟩ e):=(gB.refl _ _).setCell i e;have m:∀g,uh w P g->g<a.heap.size->(a.setCell ⟨w.heap.size,i,N⟩ e).heap[g]?=a.heap[g]?:=λg n o=>k.block g o n.ne.1;exact⟨h.sx.put i e,h.hb,h1,h2,by rw[k.block _ (ae h.d5) Y];exact h.d5,by rw[k.block _ (ae h.d7) Y];exact h.d7,gF.keep 12 q m,h.fnd.imp λu r=>gF.keep 11 r m⟩
def Sy.fin{i l m n o q r:GI}(h:Sy w C P S f j b c F a t #[i,l,m,n,o,q,r] d){W:Gr}(v:W=((((((a.setCell ⟨w.heap.size+1,0,N⟩ i).setCell ⟨w.heap.size+1,1,N⟩ l).setCell ⟨w.heap.size+1,2,N⟩ m).setCell ⟨w.heap.size+1,3,N⟩ n).setCell ⟨w.heap.size+1,4,N⟩ o).setCell ⟨w.heap.size+1,5,N⟩ q).setCell ⟨w.heap.size+1,6,N⟩ r):W.heap[w.heap.size+1]?=O (Pp #[i,l,m,n,o,q,r] 67 (0,0))/\jP C S w W t/\gF (λe=>P e\/w.heap.size<=e) 12 W (N1 #[i,l,m,n,o,q,r]) d:=by
 have g:=lX a (w.heap.size+1) i l m n o q r;have u:=pq h.sx.b4 i l m n o q r;rw[<-v]at g u;obtain⟨⟨p,x⟩,k⟩:=h.sx.to_;have z:=h.sx.lt;have y:=k.size;exact⟨u,⟨⟨p,x.onlyS g Y⟩,g.os.t k.os,g.tape.t k.tape,g.output.t k.output,aA y g.size,λe h1 h2=>(g.block e Y Y).t (k.block e h1 h2)⟩,gF.m 12 (gF.keep 12 h.vin (λe h1 h2=>g.block e h2 h1.ne.2)) (λe h1 _=>by rcases h1 with h1|h1;exact P3 h1.1;exact P4 Y)⟩
end
def Kb(a:Int):pu a N=N:=rfl
def se{a:gk (VT 11)}{r:List Nat}{m q:Nat}{v e:Int}{x:Bool}{t1 k:Option (List Nat)}{y:List Nat}(z:m=(gV kL a.keys a.items).length)(A:∀b,gV kL a.keys a.items=[b]->v=kO b/\e=pC b)(K:1<q->ii a=N)(n:(!decide (m=1/\q<=1/\v=2/\0<=e))=x)(d:(if x=PV then N else O r)=t1)
  (B:(k=N/\(t1=N\/ii a=N\/∃u,ii a=O u/\4<G u))\/(k=t1/\(t1=N\/ii a=O y))):(pu e k=N->tQ (ju a r))/\(∀i l,pu e k=O (i,l)->0<=e/\ju a r=O ((⟨8,0,0,[],(kH a).items,(kH a).keys,y⟩,i),l)):=by
 have E:∀f,ii a=O f->jg a=O ⟨8,0,0,[],(kH a).items,(kH a).keys,f⟩:=λf j=>by unfold jg;rw[j,(pX a).1,(pX a).2.1];rfl
 have D:ii a=N->jg a=N:=λj=>by unfold jg;rw[j];rfl
 have M:∀f:List (VT 11),G f=1->∃b,f=[b]:=λf j=>by
  match f,j with
  | [b],_=>exact⟨b,rfl⟩
 by_cases g:m=1/\q<=1/\v=2/\0<=e
 ·rw[aB g]at n;subst n;have d:t1=O r:=d.s;obtain⟨b,c⟩:=M _ (z.s.t g.1);obtain⟨e0,e1⟩:=A b c;have o:=si a r b c (by have:=g.2.2.1;omega) (by have:=g.2.2.2;omega);rw[<-e1]at o;rcases B with⟨h2,h3⟩|⟨h2,h3⟩
  ·rw[h2,Kb];refine⟨λ_=>?_,λi l h=>by cases h⟩;rcases h3 with h3|h3|⟨u,h3,J⟩;·rw[d]at h3;cases h3
   ·left;rw[o,D h3];cases pu e (O r)<;>rfl
   ·rw[o,E _ h3];cases pu e (O r)with
    |none=>exact P3 rfl
    |some Q=>exact P4 ⟨_,_,rfl,J⟩
  ·rw[h2,d];have h3:=h3.resolve_left (by rw[d];simp);rw[o,E _ h3];refine⟨λh=>?_,λi l h=>?_⟩;·left;rw[h];rfl
   ·rw[h];exact⟨g.2.2.2,rfl⟩
 ·rw[ar g]at n;subst n;have d:t1=N:=d.s;have h2:k=N:=by rcases B with h|h;exact h.1;exact h.1.t d
  rw[h2,Kb];refine⟨λ_=>P3 ?_,λi l h=>by cases h⟩;by_cases c:∃b,gV kL a.keys a.items=[b]/\kO b=2/\0<=pC b
  ·obtain⟨b,c,h2,F⟩:=c;obtain⟨e0,e1⟩:=A b c;have h1:m=1:=by rw[z,c];rfl
   have L:=K (Nat.lt_of_not_le λh=>g ⟨h1,h,Y,Y⟩);rw[si a r b c h2 F,D L];cases pu (pC b) (O r)<;>rfl
  ·exact GS a r (λb h1 h2 h3=>c ⟨b,h1,h2,h3⟩)
def nD{a:Gr}{b:Nat}{c d e f g i j:GI}(h:a.heap[b]?=O (Pp #[c,d,e,f,g,i,j] 67 (0,0))):(a.cell? ⟨b,0,N⟩=O c/\a.cell? ⟨b,1,N⟩=O d/\a.cell? ⟨b,2,N⟩=O e/\a.cell? ⟨b,3,N⟩=O f/\a.cell? ⟨b,4,N⟩=O g/\a.cell? ⟨b,5,N⟩=O i/\a.cell? ⟨b,6,N⟩=O j) /\
  a.frozen? ⟨b,0,N⟩=P2/\a.frozen? ⟨b,1,N⟩=P2/\a.frozen? ⟨b,2,N⟩=P2/\a.frozen? ⟨b,3,N⟩=P2/\a.frozen? ⟨b,4,N⟩=P2/\a.frozen? ⟨b,5,N⟩=P2/\a.frozen? ⟨b,6,N⟩=P2:=
 ⟨⟨iI h,iI h,iI h,iI h,iI h,iI h,iI h⟩,nG h,nG h,nG h,nG h,nG h,nG h,nG h⟩
def MR{bq:GI}{a:gk (VT 11)}{r:List Nat}(h:Sn C S w p (O r))(hv:gF P 12 w bq a)(hb:∀e,P e->C≠e)(hM:mL 200000 (k:=12) a)(c7:a.kind=7):K8 Qe 175 #[M2 (O ⟨C,0,N⟩),bq] w (BU C S P (ju a r) w):=by
 have fw:=h.lt;obtain⟨n0,n1,n2,bt,ja,jl,jc,ka,kl,kc,fa,fl,fc,rfl⟩:=hv.form;obtain⟨W0,bw⟩:∃W0,(w.alloc (Pp #[I U n0,I U n1,I U n2,MV bt,Z ja jl jc,Z ka kl kc,Z fa fl fc] 67)).alloc (Pp gG 67)=W0:=⟨_,rfl⟩;have b0:LT w.heap.size w W0:=by rw[<-bw];exact((aq _ _).alloc (ag _) _).alloc eA _
 have g9:W0.heap.size=w.heap.size+2:=by rw[<-bw];simp
 have a9:L1 (Sx w C S W0 (O r) #[I U n0,I U n1,I U n2,MV bt,Z ja jl jc,Z ka kl kc,Z fa fl fc]):=by
  refine⟨fw,⟨⟨p,h.other b0⟩,.of_below b0⟩,?_,?_⟩;·rw[<-bw];exact mA _ (bn _ _)
  ·rw[<-bw];have:=bn (w.alloc (Pp #[I U n0,I U n1,I U n2,MV bt,Z ja jl jc,Z ka kl kc,Z fa fl fc] 67)) (Pp gG 67);rw[aL]at this;exact this
 have ep:gF (λe=>P e/\e<w.heap.size) 12 W0 (N1 #[I U n0,I U n1,I U n2,MV bt,Z ja jl jc,Z ka kl kc,Z fa fl fc]) a:=gF.keep 12 (gF.m 12 hv (λe h1 h2=>⟨h1,h2⟩)) (λe h1 _=>b0.block e h1.2);have H1:L1 (K8 Qe 172 #[N1 #[I U n0,I U n1,I U n2,MV bt,Z ja jl jc,Z ka kl kc,Z fa fl fc],MV {data:=#[76,101,110,103,116,104]}] W0 _):=rV kL ep (Nat.le_of_eq (hM.2.2.1 c7)) (aA hM.2.1 Y);have d4:L1 ((w.alloc (Pp #[I U n0,I U n1,I U n2,MV bt,Z ja jl jc,Z ka kl kc,Z fa fl fc] 67)).alloc (Pp #[I U 0,I U 0,I U 0,MV {data:=#[]},Z N 0 0,Z N 0 0,Z N 0 0] 67)=W0):=bw;have HM:=H (And.intro hM c7);clear h hv ep b0 bw hM c7
 go_in
 go_upto_region 1 with fail
 rw[d4.o];go_cut [5,6]from 10 (λu5 u6 u=>∃(E c1:Nat) (A1 D1:Array GI),u5=M2 (O ⟨E,0,N⟩)/\u6=I U (c1:Nat)/\w.heap.size+2<=E/\mi (N1 A1)/\mi (N1 D1)/\L1 (Sx w C S u (O r) A1)/\L1 (u.heap[E]?=O (Pp D1 67 (0,0)))/\L1 (gF (uh w P) 12 u (N1 A1) (kR kL a))/\L1 (c1=(gV kL a.keys a.items).length)/\L1 (mU (uh w P) 11 u (N1 D1) (gV kL a.keys a.items)))
 case first=>
  have c0:=iI (i:=0) a9.b3;have c1:=iI (i:=1) a9.b3;have D:=iI (i:=2) a9.b3;have c3:=iI (i:=3) a9.b3;have c4:=iI (i:=4) a9.b3;have c5:=iI (i:=5) a9.b3;have c6:=iI (i:=6) a9.b3;go_wp2_with fail;apply H1.o.m;rintro a7 w1 ⟨v1,g1,rfl,m,c8,cx⟩;obtain⟨a0,a1,a2,a3,aa,al,ac,ba,cu,bc,ca,cl,cc,rfl⟩:=gF.form c8;obtain⟨q,f,k2,k3,R,V,T,W,el,X,ga,gl,gc,rfl⟩:=cx.form;have bf:=H (a9.below m);have fx:¬w1.heap.size=w.heap.size:=by have:=ae bf.b3;omega
  obtain⟨⟨s0,s1,s2,s3,s4,s5,s6⟩,z0,z1,z2,z3,z4,z5,z6⟩:=nD (bf.alloc (Pp #[I U 0,I U 0,I U 0,MV {data:=#[]},Z N 0 0,Z N 0 0,Z N 0 0] 67)).b3;clear c0 c1 D c3 c4 c5 c6;go_wp2
  go_meet
  case rel=>have hx:=bf.o.set2 (I U a0) (I U a1) (I U a2) (MV a3) (Z aa al ac) (Z ba cu bc) (Z ca cl cc) (I U q) (I U f) (I U k2) (MV k3) (Z R V T) (Z W el X) (Z ga gl gc) rfl;have f7:=m.size;have b9:∀{k:Nat} {ad:GI} {c:VT k},gF (λe=>(P e/\e<w.heap.size)\/W0.heap.size<=e) k w1 ad c->gF (uh w P) k _ ad c:=λ{k ad c} hh=>gF.m k (gF.keep k hh (λe h1 h2=>hx.2.2 e h2 (by rcases h1 with h1|h1<;>omega))) (λe h1 _=>(by rcases h1 with h1|h1;exact P3 h1;exact P4 Y));refine⟨w1.heap.size,_,_,_,rfl,rfl,Y,gF.form c8,cx.form,hx.1,hx.2.1,b9 c8,rfl,?_⟩;exact cx.imp (λc F=>b9 (gF.m 11 F (λe h1 _=>P3 h1)))
 case rest=>
 obtain⟨E,c1,A1,D1,rfl,rfl,hg5,⟨a0,a1,a2,a3,aa,al,ac,ba,cu,bc,ca,cl,cc,hA⟩,⟨q,f,k2,k3,R,V,T,W,el,X,ga,gl,gc,hD⟩,bf,ci,d2,ex,dr⟩:=hcut;injection hA with hA;injection hD with hD;subst hA;subst hD;obtain⟨w1,gd⟩:∃w1,w1=wc:=⟨_,rfl⟩;subst gd;have e6:L1 (∀c,gV kL a.keys a.items=[c]->q=kO c/\f=pC c):=λc F=>dr.o.one F;have H2:L1 (K8 Qe 172 #[N1 #[I U a0,I U a1,I U a2,MV a3,Z aa al ac,Z ba cu bc,Z ca cl cc],MV {data:=#[70,105,108,116,101,114]}] w1 _):=rV kF d2 (by simp[kR]) (by have h1:=HM.o.1.2.1;have h2:(gW kL (a.keys.zip a.items)).length<=(a.keys.zip a.items).length:=List.length_filter_le _ _;rw[fp]at h2;have h3:(gk.keys (α:=VT 11) a).length<=200000:=h1;simp only[kR,aw];omega)
 rw[rK]at H2;clear dr H1 a9 d4
 go_upto_region 2 with fail
 go_cut [7,8]from 10 (λu7 u8 u=>∃(K D:Nat) (A2 D2:Array GI),u7=M2 (O ⟨K,0,N⟩)/\u8=I U (D:Nat)/\w.heap.size+2<=K/\mi (N1 A2)/\mi (N1 D2)/\L1 (Sx w C S u (O r) A2)/\L1 (u.heap[E]?=O (Pp #[I U q,I U f,I U k2,MV k3,Z R V T,Z W el X,Z ga gl gc] 67 (0,0)))/\L1 (u.heap[K]?=O (Pp D2 67 (0,0)))/\L1 (gF (uh w P) 12 u (N1 A2) (kH a))/\L1 (D=(gV kF a.keys a.items).length)/\L1 (mU (uh w P) 11 u (N1 D2) (gV kF a.keys a.items)))
 case first=>
  obtain⟨⟨r0,r1,r2,r3,r4,r5,r6⟩,f0,f1,f2,f3,f4,f5,f6⟩:=nD bf.b3;clear f0 f1 f2 f3 f4 f5 f6;go_wp2_with fail;apply H2.o.m;rintro a7 w2 ⟨v2,g2,rfl,n,c9,cy⟩;obtain⟨b0,m,e9,Q,j,y,x,z,B,A,la,ll,lc,rfl⟩:=gF.form c9;obtain⟨l0,l1,l2,l3,ma,ml,mc,oa,ol,oc,pa,pl,pc,rfl⟩:=cy.form;have bi:=H (bf.below n);have fx:¬w2.heap.size=w.heap.size:=by have:=ae bi.b3;omega
  obtain⟨⟨s0,s1,s2,s3,s4,s5,s6⟩,z0,z1,z2,z3,z4,z5,z6⟩:=nD (bi.alloc (Pp #[I U 0,I U 0,I U 0,MV {data:=#[]},Z N 0 0,Z N 0 0,Z N 0 0] 67)).b3;clear r0 r1 r2 r3 r4 r5 r6;go_wp2
  go_meet
  case rel=>
   have hx:=bi.o.set2 (I U b0) (I U m) (I U e9) (MV Q) (Z j y x) (Z z B A) (Z la ll lc) (I U l0) (I U l1) (I U l2) (MV l3) (Z ma ml mc) (Z oa ol oc) (Z pa pl pc) rfl;have f7:=n.size;have h5:=ae ci;have h4:=ae bf.b4;have b9:∀{k:Nat} {ad:GI} {c:VT k},gF (λe=>uh w P e\/w1.heap.size<=e) k w2 ad c->gF (uh w P) k _ ad c:=λ{k ad c} hh=>gF.m k (gF.keep k hh (λe h1 h2=>hx.2.2 e h2 (by rcases h1 with h1|h1;exact h1.ne.1;omega))) (λe h1 _=>(by rcases h1 with h1|h1;exact h1;exact P4 Y));refine⟨w2.heap.size,_,_,_,rfl,rfl,Y,gF.form c9,cy.form,hx.1,?_,hx.2.1,b9 c9,rfl,?_⟩;·exact(hx.2.2 E Y Y).t ((n.block _ h5).t ci)
   ·exact cy.imp (λc F=>b9 (gF.m 11 F (λe h1 _=>P3 h1)))
 case rest=>
 obtain⟨K,D,A2,D2,rfl,rfl,fr,⟨b0,m,n,Q,j,y,x,z,B,A,la,ll,lc,hA⟩,⟨l0,l1,l2,l3,ma,ml,mc,oa,ol,oc,pa,pl,pc,hD⟩,bi,dn,dp,d3,ch,ds⟩:=hcut;injection hA with hA;injection hD with hD;subst hA;subst hD;obtain⟨w2,gf⟩:∃w2,w2=wc:=⟨_,rfl⟩;subst gf;have ct:L1 (Sy w C P S E K #[I U q,I U f,I U k2,MV k3,Z R V T,Z W el X,Z ga gl gc] #[I U l0,I U l1,I U l2,MV l3,Z ma ml mc,Z oa ol oc,Z pa pl pc] (gV kF a.keys a.items) w2 (O r) #[I U b0,I U m,I U n,MV Q,Z j y x,Z z B A,Z la ll lc] (kH a)):=⟨bi,hb,hg5,fr,dn,dp,d3,ds⟩;have bm:L1 (Sy w C P S E K #[I U q,I U f,I U k2,MV k3,Z R V T,Z W el X,Z ga gl gc] #[I U l0,I U l1,I U l2,MV l3,Z ma ml mc,Z oa ol oc,Z pa pl pc] (gV kF a.keys a.items) (w2.setCell ⟨w.heap.size,0,N⟩ (I U 8)) (O r) #[I U 8,I U m,I U n,MV Q,Z j y x,Z z B A,Z la ll lc] { kH a with kind:=8 }):=ct.o.put 0 (I U 8) (gF.kindTo ct.vin 8);have y0:=(nD bi.b3).1.1;have y1:=(nD bi.b3).2.1;have e7:L1 (∀c∈gV kF a.keys a.items,(kq c).length<=200000):=λc F=>by
  have h1:mL 200000 c:=HM.o.1.2.2.2.2.2 c (qN F);unfold kq;split
  ·show((gk.items (α:=VT 10) c).map kt).length<=_;rw[aw];exact h1.1
  ·simp
 have cj:=H (qV a);generalize gV kF a.keys a.items=PF at *;obtain⟨W3,cw⟩:∃W3,w2.setCell ⟨w.heap.size,0,N⟩ (I U 8)=W3:=⟨_,rfl⟩;have d6:=H cw;rw[cw]at bm;clear ci d2 bf H2 bi dn dp d3 ds ct cw
 go_upto_region 4 with fail
 rw[d6.o];clear y0 y1 d6;have y0:=(nD bm.d5).1.1;have y1:=(nD bm.d5).1.2.1;obtain⟨ao,hG⟩:∃ao,(!decide (c1=1/\D<=1/\q=2/\0<=f))=ao:=⟨_,rfl⟩;go_cut [38]from 10 (λbv u=>bv=OV ao/\u=W3)
 case first=>
  by_cases q0:c1=1
  ·have m0:((c1:Int) != 1)=P2:=eB;by_cases q1:D<=1
   ·have m1:decide (1<(D:Int))=P2:=eB;by_cases q2:q=2
    ·have m2:(q != 2)=P2:=eB;by_cases q3:0<=f
     ·have m3:decide (f<0)=P2:=eB;have HD:L1 (ao=P2):=by rw[<-hG,aB ⟨q0,q1,q2,q3⟩];rfl
      clear hG q0 q1 q2 q3;go_wp2
      go_meet
      case rel=>exact⟨by rw[HD.o],rfl⟩
     ·have m3:decide (f<0)=PV:=eB;have HD:L1 (ao=PV):=by rw[<-hG,ar (λh=>q3 h.2.2.2)];rfl
      clear hG q0 q1 q2 q3;go_wp2
      go_meet
      case rel=>exact⟨by rw[HD.o],rfl⟩
    ·have m2:(q != 2)=PV:=eB;have HD:L1 (ao=PV):=by rw[<-hG,ar (λh=>q2 h.2.2.1)];rfl
     clear hG q0 q1 q2;go_wp2
     go_meet
     case rel=>exact⟨by rw[HD.o],rfl⟩
   ·have m1:decide (1<(D:Int))=PV:=eB;have HD:L1 (ao=PV):=by rw[<-hG,ar (λh=>q1 h.2.1)];rfl
    clear hG q0 q1;go_wp2
    go_meet
    case rel=>exact⟨by rw[HD.o],rfl⟩
  ·have m0:((c1:Int) != 1)=PV:=eB;have HD:L1 (ao=PV):=by rw[<-hG,ar (λh=>q0 h.1)];rfl
   go_wp2
   go_meet
   case rel=>exact⟨by rw[HD.o],rfl⟩
 case rest=>
 obtain⟨rfl,dk⟩:=hcut;have dk:=dk.s;subst dk;have HG:=H hG;obtain⟨t1,f8⟩:∃t1,(if ao=PV then N else O r)=t1:=⟨_,rfl⟩;have b6:=H f8
 go_upto_if 38 with fail
 go_cut []from 10 (λu=>L1 (Sy w C P S E K #[I U q,I U f,I U k2,MV k3,Z R V T,Z W el X,Z ga gl gc] #[I U l0,I U l1,I U l2,MV l3,Z ma ml mc,Z oa ol oc,Z pa pl pc] PF u t1 #[I U 8,I U m,I U n,MV Q,Z j y x,Z z B A,Z la ll lc] { kH a with kind:=8 }))
 case first=>
  obtain⟨⟨p3,h3⟩,o3⟩:=bm.o.sx.to_;cases ao with
  |true=>
   have HE:L1 (t1=N):=b6.o.s;have bb:=H (qW h3);go_wp2_with fail;apply bb.o.m;rintro a7 w4 ⟨rfl,h4,o4⟩;have a4:L1 (Sy w C P S E K #[I U q,I U f,I U k2,MV k3,Z R V T,Z W el X,Z ga gl gc] #[I U l0,I U l1,I U l2,MV l3,Z ma ml mc,Z oa ol oc,Z pa pl pc] PF w4 t1 #[I U 8,I U m,I U n,MV Q,Z j y x,Z z B A,Z la ll lc] { kH a with kind:=8 }):=by rw[HE.o];exact bm.step ⟨⟨_,h4⟩,o4⟩
   go_wp2
   go_meet
   case rel=>exact a4
  |false=>
   have HE:L1 (t1=O r):=b6.o.s;have a4:L1 (Sy w C P S E K #[I U q,I U f,I U k2,MV k3,Z R V T,Z W el X,Z ga gl gc] #[I U l0,I U l1,I U l2,MV l3,Z ma ml mc,Z oa ol oc,Z pa pl pc] PF W3 t1 #[I U 8,I U m,I U n,MV Q,Z j y x,Z z B A,Z la ll lc] { kH a with kind:=8 }):=by rw[HE.o];exact bm
   clear h3 o3;go_wp2
   go_meet
   case rel=>exact a4
 case rest=>
 obtain⟨w4,gi⟩:∃w4,w4=wc:=⟨_,rfl⟩;subst gi;have a4:=H hcut;clear hcut bm
 go_upto_if 42 with fail
 go_cut []from 10 (λu=>∃(L:Option L2) (xl M:Nat) (fs:List Nat) (J:Option (List Nat)),L1 (Sy w C P S E K #[I U q,I U f,I U k2,MV k3,Z R V T,Z W el X,Z ga gl gc] #[I U l0,I U l1,I U l2,MV l3,Z ma ml mc,Z oa ol oc,Z pa pl pc] PF u J #[I U 8,I U m,I U n,MV Q,Z j y x,Z z B A,Z L xl M] { kH a with kind:=8,filters:=fs })/\L1 ((J=N/\(t1=N\/ii a=N\/∃ek,ii a=O ek/\4<G ek))\/(J=t1/\(t1=N\/ii a=O fs))))
 case first=>
  by_cases hq:D=1
  ·have m1:((D:Int)==1)=PV:=by rw[hq];rfl
   obtain⟨c,F⟩:∃c,PF=[c]:=by
    have:=ch.o;rw[hq]at this;match PF,this with
    | [c],_=>exact⟨c,rfl⟩
   have eq:gF (uh w P) 11 w4 (N1 #[I U l0,I U l1,I U l2,MV l3,Z ma ml mc,Z oa ol oc,Z pa pl pc]) c:=by have:=a4.o.fnd;rw[F]at this;exact this
   obtain⟨⟨p4,h4⟩,o4⟩:=a4.o.sx.to_;have e3:=H (MP h4 eq (e7 c (by rw[F];simp)));have e5:L1 (ii a=kC (kq c)):=by have:=cj.o;rw[F]at this;exact this
   obtain⟨⟨r0,r1,r2,r3,r4,r5,r6⟩,f0,f1,f2,f3,f4,f5,f6⟩:=nD a4.d7;have hi:=ae a4.sx.b4;generalize kq c=KT at *;clear f0 f1 f2 f3 f4 f5 f6 hq eq h4 o4 F;go_wp2_with fail;apply e3.o.m;rintro a7 w5 ⟨fv,rfl,ce,k5⟩;obtain⟨L,M,fi⟩:=jp ce;subst fi;have bo:=H (a4.step k5);have e8:L1 (jz (uh w P) w5 3 1 (Z L (G KT) M) (KT.map λad=>jy (ge ad.2)).length ((KT.map λad=>jy (ge ad.2)).map λfb:Nat=>I U fb)):=by
    refine jz.of (b:=w4.heap.size) ?_ (λe hg=>?_);·rw[aw,fH];exact ce
    ·have:=(ce.lt e hg).1;exact P4 Y
   have b7:=H (bo.put 6 (Z L (G KT) M) (gF.filtersTo bo.vin e8));have c6:=(nD bo.sx.b3).1.2.2.2.2.2.2;have f6:=(nD bo.sx.b3).2.2.2.2.2.2.2;clear ce k5 r0 r1 r2 r3 r4 r5 r6;go_wp2
   go_meet
   case rel=>
    refine⟨L,G KT,M,_,_,b7,?_⟩;have hf:=e5.o;rw[oY]at hf;unfold rF;by_cases j:KT.all kP=PV
    ·rw[ai j]at hf;by_cases hN:KT=[]\/(G KT)<=4;·rw[ai ⟨hN,j⟩];exact P4 ⟨rfl,P4 hf⟩
     ·rw[ah (λh=>hN h.1)];exact P3 ⟨rfl,P4 (P4 ⟨_,hf,by rw[aw];have:=λh=>hN (P4 h);omega⟩)⟩
    ·rw[ah j]at hf;rw[ah (λh=>j h.2)];exact P3 ⟨rfl,P4 (P3 hf)⟩
  ·have m1:((D:Int)==1)=P2:=eB;have HE:L1 (t1=N\/ii a=O []):=by
    have h1:=ch.o;have h2:=cj.o;match PF,h1,h2 with
    | [],h1,h2=>exact P4 h2
    | [c],h1,h2=>exact absurd h1 hq
    |c::gv::gr,h1,h2=>left;rw[<-b6.o,<-HG.o,ar (λh=>by have:=h.2.1;simp at h1;omega)];rfl
   have b7:L1 (Sy w C P S E K #[I U q,I U f,I U k2,MV k3,Z R V T,Z W el X,Z ga gl gc] #[I U l0,I U l1,I U l2,MV l3,Z ma ml mc,Z oa ol oc,Z pa pl pc] PF w4 t1 #[I U 8,I U m,I U n,MV Q,Z j y x,Z z B A,Z la ll lc] { kH a with kind:=8,filters:=[]}):=by
    have h1:=((pX a).2.2).t HM.1.2.2.2.2.1;have h2:=a4.o;have h3:({ kH a with kind:=8 }:gk (VT 11))={ kH a with kind:=8,filters:=[]}:=by rw[<-h1]
    rw[h3]at h2;exact h2
   go_wp2
   go_meet
   case rel=>exact⟨la,ll,lc,[],t1,b7,P4 ⟨rfl,HE⟩⟩
 case rest=>
 obtain⟨L,xl,M,fs,J,bo,d0⟩:=hcut;obtain⟨w5,gp⟩:∃w5,w5=wc:=⟨_,rfl⟩;subst gp;have ey:L1 (1<D->ii a=N):=λh=>by
  have h1:=ch.o;have h2:=cj.o;match PF,h1,h2 with
  | [],h1,h2=>simp at h1;omega
  | [c],h1,h2=>simp at h1;omega
  |c::gv::gr,h1,h2=>exact h2
 have bz:=H (se ex e6 ey HG b6 d0);obtain⟨⟨p5,h5⟩,o5⟩:=bo.o.sx.to_;have H6:=H (wT h5 {data:=#[13]} cO);rw[show bl {data:=#[13]}=[13]from rfl]at H6;go_wp2_with fail;apply H6.o.m;rintro a7 w6 ⟨rfl,k6⟩;have b7:=H (bo.step k6);obtain⟨p6,h6⟩:=k6.1;have H7:=H (xP h6 {data:=#[10]} cO);rw[show bl {data:=#[10]}=[10]from rfl]at H7;go_wp2_with fail;apply H7.o.m;rintro a7 w7 ⟨rfl,k7⟩;have b8:=H (b7.step k7);obtain⟨t4,eo⟩:∃t4,(cS [13] J).bind (f_ [10])=t4:=⟨_,rfl⟩;rw[eo]at b8 k7;have cb:=H eo;obtain⟨g,h7⟩:=k7.1;have c0:=h7.c0;have cd:=h7.c1;have ee:=h7.c2;have g3:=h7.lp;have g4:=h7.ls;have y1:=(nD b8.d5).1.2.1;have bd:=H h7;generalize qT [13] J=CB at *;cases t4 with
 |none=>
  simp only[Option.isNone_none]at ee;go_wp2_with fail;go_quiet (fail);have bb:=H (qW (bd.drewN nq));have a5:=H (b8.step ⟨⟨_,bd.drewN nq⟩,(gB.refl _ _).drewN nq⟩);generalize w7.drewN nq=W8 at *;go_wp2_with fail;apply bb.o.m;rintro a7 w9 ⟨rfl,h9,o9⟩;have a6:=H (a5.step ⟨⟨_,h9⟩,o9⟩);obtain⟨⟨r0,r1,r2,r3,r4,r5,r6⟩,f0,f1,f2,f3,f4,f5,f6⟩:=nD a6.sx.b3;obtain⟨⟨s0,s1,s2,s3,s4,s5,s6⟩,z0,z1,z2,z3,z4,z5,z6⟩:=sF a6.sx.b4;have a8:L1 (pu f J=N):=by unfold Hid pu;rw[cb.o];rfl
  go_wp2;have v:=H (a6.fin rfl);refine av (v:=N1 #[I U 8,I U m,I U n,MV Q,Z j y x,Z z B A,Z L xl M]) ?_ rfl ?_;·exact aE results175 _ _ (w.heap.size+1) 67 _ _ _ rfl v.1 aK rfl aG
  ·exact⟨_,N,rfl,⟨_,_,_,_,_,_,_,_,_,_,_,_,_,rfl⟩,v.2.1,P3 ⟨rfl,bz.1 a8⟩⟩
 |some l=>
  simp only[Option.isNone_some]at ee;have g6:=bd.o.len;have ev:=H bd.bytes;by_cases hk:f<=(G l:Int)
  ·have hd:decide ((S.size:Int)-(g:Int)<f)=P2:=eB;have fu:0<=f:=by
    have h1:=cb.o;cases h2:J with
    |none=>rw[h2]at h1;cases h1
    |some r2=>
     have h3:t1=J:=by
      rcases d0.o with h|h;·rw[h2]at h;cases h.1
      ·exact h.1.s
     have h4:=b6.o;have h5:=HG.o;by_cases en:c1=1/\D<=1/\q=2/\0<=f;·exact en.2.2.2
     ·rw[ar en]at h5;subst h5;rw[h3,h2]at h4;cases h4
   obtain⟨d,hn⟩:=Int.eq_ofNat_of_zero_le fu;subst hn;go_wp2_with fail;go_quiet (fail);have a5:=H (b8.step ⟨⟨_,bd.drewN nq⟩,(gB.refl _ _).drewN nq⟩);have b5:=H (bd.drewN nq);generalize w7.drewN nq=W8 at *;have c0:=b5.o.c0;have cd:=b5.o.c1;have y1:=(nD a5.d5).1.2.1;have y3:=(nD a5.sx.b3).1.2.2.2.1;have z3:=(nD a5.sx.b3).2.2.2.2.1;have ho:IntKind.i64.wrap ((g:Int)+(d:Int))=((g+d:Nat):Int):=by rw[aU];omega
   have hs:(0:Int)<=(g:Int)+(d:Int):=Y;have ht:(g:Int)+(d:Int)<=(S.size:Int):=Y;have hu:((g:Int)+(d:Int)).toNat=g+d:=Y;have hw:(g:Int)<=(g:Int)+(d:Int):=Y;go_wp2_with fail;go_region;have d1:L1 (S.extract g (g+d)=ge (l.take d)):=by unfold Hid;rw[<-uN (S.extract g (g+d)),bp S g d Y,b5.o.rest l rfl]
   rw[d1.o];have a6:L1 (Sy w C P S E K #[I U q,I U (d:Nat),I U k2,MV k3,Z R V T,Z W el X,Z ga gl gc] #[I U l0,I U l1,I U l2,MV l3,Z ma ml mc,Z oa ol oc,Z pa pl pc] PF (W8.setCell ⟨w.heap.size,3,N⟩ (MV (ge (l.take d)))) (O l) #[I U 8,I U m,I U n,MV (ge (l.take d)),Z j y x,Z z B A,Z L xl M] { kH a with kind:=8,filters:=fs,text:=l.take d }):=a5.o.put 3 (MV (ge (l.take d))) (gF.textTo a5.vin (l.take d));have br:L1 (Sn C S (W8.setCell ⟨w.heap.size,3,N⟩ (MV (ge (l.take d)))).drew g (O l)):=b5.o.onlyS (((gB.refl w.heap.size W8).setCell 3 _).t (gB.drew _)) Y;have cp:=H (a6.step ⟨⟨g,br⟩,gB.drew _⟩);generalize (W8.setCell ⟨w.heap.size,3,N⟩ (MV (ge (l.take d)))).drew=W9 at *;generalize ge (l.take d)=TX at *;clear c0 cd y1 y3 z3 a5 b5 a6 d1;have cd:=br.o.c1;have fd:=br.o.fz 1;have y1:=(nD cp.d5).1.2.1;have ck:L1 (Sn C S (W9.setCell ⟨C,1,N⟩ (I U ((g:Int)+(d:Int)))).drew (g+d) (O (l.drop d))):=by
    have h1:=br.o.at_ (g+d) Y (t:=O (l.drop d)) rfl (λr hr=>by cases hr;rw[<-br.o.rest l rfl,di])
    exact⟨h1.blk,h1.lp,h1.ls,h1.rest⟩
   have eb:=H (cp.step ⟨⟨_,ck⟩,((gB.refl C W9).setCell 1 _).t (gB.drew _)⟩);go_wp2_with fail;go_region;generalize (W9.setCell ⟨C,1,N⟩ (I U ((g:Int)+(d:Int)))).drew=g0 at *;have cg:=H (xP ck {data:=#[10,101,110,100,115,116,114,101,97,109]} cO);rw[show bl {data:=#[10,101,110,100,115,116,114,101,97,109]}=[10,101,110,100,115,116,114,101,97,109]from rfl]at cg;clear cd fd y1 cp br ck;go_wp2_with fail;apply cg.o.m;rintro a7 hj ⟨rfl,cf⟩;have cr:=H (eb.step cf);have co:L1 (pu (d:Nat) J=(f_ [10,101,110,100,115,116,114,101,97,109] (l.drop d)).bind λbx=>if pS (O bx)=PV then N else O (l.take d,bx)):=by unfold Hid pu;rw[cb.o];simp only[Option.bind_some];rw[ai Y];rfl
   simp only[Option.bind_some]at cf cr;generalize f_ [10,101,110,100,115,116,114,101,97,109] (l.drop d)=t6 at *;obtain⟨gs,cv⟩:=cf.1;have dv:=H (Bp cv);have dw:=H cv;clear cv cf cg eb;go_wp2_with fail;apply dv.o.m;rintro a7 gt ⟨rfl,es,db⟩;have cn:L1 (Sn C S gt gs t6):=by rw[db];exact dw.drewN es
   have bs:=H (cr.step ⟨⟨_,cn⟩,by rw[db];exact(gB.refl _ _).drewN es⟩);clear db dv dw cr;cases hp:pS t6 with
   |true=>
    have bb:=H (qW cn);have a8:L1 (pu (d:Nat) J=N):=by
     unfold Hid;rw[co.o];cases t6 with
     |none=>rfl
     |some bx=>simp only[Option.bind_some];rw[ai hp]
    go_wp2_with fail;apply bb.o.m;rintro a7 hm ⟨rfl,em,eu⟩;have cs:=H (bs.step ⟨⟨_,em⟩,eu⟩);obtain⟨⟨r0,r1,r2,r3,r4,r5,r6⟩,f0,f1,f2,f3,f4,f5,f6⟩:=nD cs.sx.b3;obtain⟨⟨s0,s1,s2,s3,s4,s5,s6⟩,z0,z1,z2,z3,z4,z5,z6⟩:=sF cs.sx.b4;clear em eu bs cn bb f0 f1 f2 f3 f4 f5 f6;go_wp2;have v:=H (cs.fin rfl);refine av (v:=N1 #[I U 8,I U m,I U n,MV TX,Z j y x,Z z B A,Z L xl M]) ?_ rfl ?_;·exact aE results175 _ _ (w.heap.size+1) 67 _ _ _ rfl v.1 aK rfl aG
    ·exact⟨_,N,rfl,⟨_,_,_,_,_,_,_,_,_,_,_,_,_,rfl⟩,v.2.1,P3 ⟨rfl,bz.1 a8⟩⟩
   |false=>
    obtain⟨⟨r0,r1,r2,r3,r4,r5,r6⟩,f0,f1,f2,f3,f4,f5,f6⟩:=nD bs.sx.b3;obtain⟨⟨s0,s1,s2,s3,s4,s5,s6⟩,z0,z1,z2,z3,z4,z5,z6⟩:=sF bs.sx.b4;clear f0 f1 f2 f3 f4 f5 f6;cases t6 with
    |none=>
     have a8:L1 (pu (d:Nat) J=N):=co.o;clear hp;go_wp2;have v:=H (bs.fin rfl);refine av (v:=N1 #[I U 8,I U m,I U n,MV TX,Z j y x,Z z B A,Z L xl M]) ?_ rfl ?_;·exact aE results175 _ _ (w.heap.size+1) 67 _ _ _ rfl v.1 aK rfl aG
     ·exact⟨_,N,rfl,⟨_,_,_,_,_,_,_,_,_,_,_,_,_,rfl⟩,v.2.1,P3 ⟨rfl,bz.1 a8⟩⟩
    |some bx=>
     have a8:L1 (pu (d:Nat) J=O (l.take d,bx)):=by unfold Hid;rw[co.o];simp only[Option.bind_some];rw[hp];rfl
     clear hp;go_wp2;have v:=H (bs.fin rfl);refine av (v:=N1 #[I U 8,I U m,I U n,MV TX,Z j y x,Z z B A,Z L xl M]) ?_ rfl ?_;·exact aE results175 _ _ (w.heap.size+1) 67 _ _ _ rfl v.1 aK rfl aG
     ·exact⟨_,O bx,rfl,⟨_,_,_,_,_,_,_,_,_,_,_,_,_,rfl⟩,v.2.1,P4 ⟨_,_,(bz.2 _ _ a8).2,rfl,v.2.2,λc F=>ev c (dj F)⟩⟩
  ·have hd:decide ((S.size:Int)-(g:Int)<f)=PV:=eB;go_wp2_with fail;go_quiet (fail);have bb:=H (qW (bd.drewN nq));have a5:=H (b8.step ⟨⟨_,bd.drewN nq⟩,(gB.refl _ _).drewN nq⟩);generalize w7.drewN nq=W8 at *;go_wp2_with fail;apply bb.o.m;rintro a7 w9 ⟨rfl,h9,o9⟩;have a6:=H (a5.step ⟨⟨_,h9⟩,o9⟩);obtain⟨⟨r0,r1,r2,r3,r4,r5,r6⟩,f0,f1,f2,f3,f4,f5,f6⟩:=nD a6.sx.b3;obtain⟨⟨s0,s1,s2,s3,s4,s5,s6⟩,z0,z1,z2,z3,z4,z5,z6⟩:=sF a6.sx.b4;have a8:L1 (pu f J=N):=by unfold Hid pu;rw[cb.o];simp only[Option.bind_some];rw[ah Y]
   go_wp2;have v:=H (a6.fin rfl);refine av (v:=N1 #[I U 8,I U m,I U n,MV Q,Z j y x,Z z B A,Z L xl M]) ?_ rfl ?_;·exact aE results175 _ _ (w.heap.size+1) 67 _ _ _ rfl v.1 aK rfl aG
   ·exact⟨_,N,rfl,⟨_,_,_,_,_,_,_,_,_,_,_,_,_,rfl⟩,v.2.1,P3 ⟨rfl,bz.1 a8⟩⟩
end
section
variable{a:Nat}{S:ByteArray}{w b:Gr}{p:Nat}{s t:Option (List Nat)}
def pW(s:Option (List Nat)):Option ((VT 12×List Nat)×List Nat):=((s.bind (gg [48])).bind (gg [111,98,106])).bind λq=>(iY q).bind λx=>(gg [101,110,100,111,98,106] x.2).map λc=>(x.1,c)
def ku(x:VT 12×List Nat):VT 12:=if gk.kind (α:=VT 11) x.1=8 then sT (k:=11) x.1 x.2 else x.1
def BJ(a:Nat)(S:ByteArray)(e:Option ((VT 12×List Nat)×List Nat))(w:Gr)(g:MB)(b:Gr):Prop:=∃(c:GI) (t:Option (List Nat)),g=Ps c/\mi c/\jP a S w b t/\((t=N/\tQ e)\/∃(d:VT 12×List Nat) (f:List Nat),e=O (d,f)/\t=O f/\gF (λh=>w.heap.size<=h) 12 b c (ku d)/\∀i∈d.2,i<256)
def Kk{k:Nat}{e:gk (VT k)}{r f:List Nat}{d:gk (VT k)×List Nat}(h:ju e r=O (d,f)):d.1.kind=8/\d.1.text=[]:=by
 unfold ju at h;split at h;·cases h
 ·split at h;·cases h
  ·split at h
   ·split at h;·cases h
    ·split at h
     ·split at h;·cases h
      ·next g c=>cases h;unfold jg at c;simp only[Option.map_eq_some_iff]at c;obtain⟨i,_,rfl⟩:=c;exact⟨rfl,rfl⟩
     ·cases h
   ·cases h
def M4{s:Option (List Nat)}(h:tQ (((s.bind (gg [48])).bind (gg [111,98,106])).bind iY)):tQ (pW s):=by
 unfold pW;cases d:(s.bind (gg [48])).bind (gg [111,98,106])with
 |none=>exact P3 rfl
 |some i=>
  rw[d]at h;simp only[Option.bind_some]at h ⊢;rcases h with h|⟨g,e,h,c⟩;·left;rw[h];rfl
  ·rw[h];simp only[Option.bind_some];cases gg [101,110,100,111,98,106] e with
   |none=>exact P3 rfl
   |some f=>exact P4 ⟨g,f,rfl,c⟩
def FO{s:Option (List Nat)}{e:VT 12×List Nat}{d:List Nat}(h:((s.bind (gg [48])).bind (gg [111,98,106])).bind iY=O (e,d)):pW s=(gg [101,110,100,111,98,106] d).map λf=>(e,f):=by
 unfold pW;cases c:(s.bind (gg [48])).bind (gg [111,98,106])with
 |none=>rw[c]at h;cases h
 |some g=>rw[c]at h;simp only[Option.bind_some]at h ⊢;rw[h];rfl
def Kx(a:Nat)(S:ByteArray)(d:Gr)(i:Nat)(g:Option ((VT 12×List Nat)×List Nat))(c:Gr)(f:Array GI)(t:Option (List Nat)):Prop:=
 c.heap[i]?=O (Pp f 67 (0,0))/\c.heap[d.heap.size]?=O (Pp gG 67 (0,0))/\jP a S d c t/\((t=N/\tQ g)\/∃(e:VT 12×List Nat) (j:List Nat),g=O (e,j)/\t=O j/\gF (λh=>d.heap.size+1<=h/\h≠i) 12 c (N1 f) (ku e)/\∀k∈e.2,k<256)
def MT(h:Sn a S w p s):K8 Qe 128 #[M2 (O ⟨a,0,N⟩)] w (BJ a S (pW s) w):=by
 have cx:=h.lt;have cw:=h.ls;have BW:L1 (LT w.heap.size w (w.alloc (Pp gG 67))):=(aq _ _).alloc (ag _) _;have H0:=H (h.other BW);have HZ:L1 ((w.alloc (Pp gG 67)).heap[w.heap.size]?=O (Pp gG 67 (0,0))):=bn _ _;have H1:=H (Bo H0 {data:=#[48]} cO);rw[show bl {data:=#[48]}=[48]from rfl,Bk]at H1;have b5:=H (λh=>@M4 s h);have b6:=H (λi e h=>@FO s i e h);obtain⟨b9,hR⟩:∃b9,pW s=b9:=⟨_,rfl⟩;rw[hR]at b5 b6 ⊢;clear h hR
 go_in
 go_wp2_with fail;apply H1.o.m;rintro g w1 ⟨rfl,⟨p1,h1⟩,o1⟩;have O1:=H ((gB.of_below BW).t o1);have bt:L1 (w1.heap[w.heap.size]?=O (Pp gG 67 (0,0))):=by unfold Hid;rw[o1.block _ eA Y];exact HZ
 have H2:=H (Bo h1 {data:=#[111,98,106]} cO);rw[show bl {data:=#[111,98,106]}=[111,98,106]from rfl,Bk]at H2;clear h1 o1 H1 HZ H0 BW;go_wp2_with fail;apply H2.o.m;rintro g w2 ⟨rfl,⟨p2,h2⟩,o2⟩;have O2:=H (O1.t o2);have bw:=H ((o2.block _ (ae bt) Y).t bt);generalize (s.bind (gg [48])).bind (gg [111,98,106])=j at *;have H3:L1 (K8 Qe 174 #[M2 (O ⟨a,0,N⟩),I U 0] w2 (mV a S 12 (j.bind (gj 12)) w2)):=FM 12 (ag _) w2 p2 j h2;have b4:L1 (∀d e,j.bind (gj 12)=O (d,e)->mL 200000 d):=λd e g=>by
  cases j with
  |none=>cases g
  |some r=>exact l_ (show gj 12 r=O (d,e)from g) (by have:=h2.len;have:=h2.ls;omega)
 clear h2 o2 H2 O1 bt;go_wp2_with fail;apply H3.o.m;intro g n cd;obtain⟨l,J,K,o,A,C,B,D,F,E,u,y,x,m,rfl,⟨⟨p3,h3⟩,o3⟩,ce⟩:=mV.any cd;obtain⟨q,bf⟩:∃q,n.alloc (Pp #[I U l,I U J,I U K,MV o,Z A C B,Z D F E,Z u y x] 67)=q:=⟨_,rfl⟩;have b3:LT n.heap.size n q:=by rw[<-bf];exact(aq _ _).alloc (ag _) _
 have x3:q.heap[n.heap.size]?=O (Pp #[I U l,I U J,I U K,MV o,Z A C B,Z D F E,Z u y x] 67 (0,0)):=by rw[<-bf];exact bn _ _
 have cp:=ae bw;have cy:=o3.size;have O3:=H (O2.t (o3.t (.of_below b3)));have bx:L1 (q.heap[w.heap.size]?=O (Pp gG 67 (0,0))):=by unfold Hid;rw[b3.block _ Y,o3.block _ cp Y];exact bw
 have bq:L1 ((j.bind (gj 12)=N/\m=N)\/∃d e,j.bind (gj 12)=O (d,e)/\m=O e/\gF (λc=>w2.heap.size<=c/\c<n.heap.size) 12 q (N1 #[I U l,I U J,I U K,MV o,Z A C B,Z D F E,Z u y x]) d):=by
  rcases ce with⟨h1,h2,_⟩|⟨d,e,h1,h2,h4⟩;·exact P3 ⟨h1,h2⟩
  ·exact P4 ⟨d,e,h1,h2,gF.keep 12 (gF.m 12 h4 (λc h1 h2=>⟨h1,h2⟩)) (λc h1 _=>b3.block c h1.2)⟩
 have a4:=H (h3.other b3);have bs:=H x3;have cn:=H bf;have d1:=a4.o.c1;have H4:=H (Bq a4);have b2:=H (Kt h3);clear h3 o3 cd ce H3 O2 bw b3 x3 bf
 go_upto_region 4 with fail
 rw[cn.o];go_wp2_with fail;apply H4.o.m;rintro g w4 ⟨rfl,⟨p4,h4⟩,o4⟩;have M:L1 (w4.heap[n.heap.size]?=O (Pp #[I U l,I U J,I U K,MV o,Z A C B,Z D F E,Z u y x] 67 (0,0))):=by unfold Hid;rw[o4.block _ (ae bs.o) Y];exact bs
 have a6:L1 (w4.heap[w.heap.size]?=O (Pp gG 67 (0,0))):=by unfold Hid;rw[o4.block _ (ae bx.o) Y];exact bx
 have bb:=H o4;have a5:=H h4;have O4:=H (O3.t o4);obtain⟨⟨r0,r1,r2,r3,r4,r5,r6⟩,_⟩:=nD M;have e1:((ge (kJ m)).toList==([115,116,114,101,97,109]:List UInt8))=decide (kJ m=[115,116,114,101,97,109]):=by rw[sD,ui _ b2.o];rfl
 obtain⟨TW,cb⟩:∃TW,ge (kJ m)=TW:=⟨_,rfl⟩;rw[cb]at e1 ⊢;clear h4 o4 d1 H4 cb b2;obtain⟨L,z⟩:∃L,decide (l=7/\kJ m=[115,116,114,101,97,109])=L:=⟨_,rfl⟩
 go_upto_region 6 with fail
 go_cut [24]from 6 (λbv wx=>bv=OV L/\wx=w4)
 case first=>
  by_cases q0:l=7
  ·have m0:(l==7)=PV:=eB;by_cases q1:kJ m=[115,116,114,101,97,109]
   ·rw[aB q1]at e1;have HD:L1 (L=PV):=by rw[<-z,aB ⟨q0,q1⟩];rfl
    clear z q0 q1;go_wp2
    go_meet
    case rel=>exact⟨by rw[HD.o],rfl⟩
   ·rw[ar q1]at e1;have HD:L1 (L=P2):=by rw[<-z,ar (λh=>q1 h.2)];rfl
    clear z q0 q1;go_wp2
    go_meet
    case rel=>exact⟨by rw[HD.o],rfl⟩
  ·have m0:(l==7)=P2:=eB;have HD:L1 (L=P2):=by rw[<-z,ar (λh=>q0 h.1)];rfl
   clear z q0;go_wp2
   go_meet
   case rel=>exact⟨by rw[HD.o],rfl⟩
 case rest=>
 obtain⟨rfl,b1⟩:=hcut;have b1:=b1.s;subst b1;have HG:=H z;clear z e1
 go_upto_if 24 with fail
 go_cut []from 6 (λwx=>∃(bm:Array GI) (t5:Option (List Nat)),mi (N1 bm)/\L1 (Kx a S w n.heap.size (j.bind iY) wx bm t5))
 case first=>
  cases L with
  |true=>
   have P:=of_decide_eq_true HG;obtain⟨d,q3,ao,cr,b0⟩:∃d e,j.bind (gj 12)=O (d,e)/\m=O e/\gF (λc=>w2.heap.size<=c/\c<n.heap.size) 12 q (N1 #[I U l,I U J,I U K,MV o,Z A C B,Z D F E,Z u y x]) d:=by
    rcases bq.o with h1|h1;·have:=P.2;rw[h1.2]at this;cases this
    ·exact h1
   subst cr;have bz:gk.kind (α:=VT 11) d=7:=by obtain⟨iv,kv,fv,vs,g,_⟩:=gF.parts (V:=d) b0;simp[nV]at g;have:=g.1;have:=P.1;omega
   have cg:=gF.keep 12 b0 (λc h1 h2=>bb.block c h2 Y);have cf:Sn a S w4 p4 (O (gm q3)):=a5.o;have ck:=H (MR cf cg (λc hg=>Y) (b4 d q3 ao) bz);have bo:L1 (j.bind iY=ju (k:=11) d (gm q3)):=by
    cases j with
    |none=>cases ao
    |some r=>have ao:gj 12 r=O (d,q3):=ao;show iY r=_;unfold iY;rw[ao];simp only[];rw[ai bz];unfold gg;rw[ai (show gn q3=[115,116,114,101,97,109]from P.2)]
   clear P b0 cg cf ao bz;go_wp2_with fail;apply ck.o.m;rintro g w5 ⟨v5,t5,rfl,⟨Q,R,T,V,W,al,X,ba,ad,bc,ca,cl,cc,rfl⟩,k5,a7⟩;have bd:L1 (w5.heap[n.heap.size]?=O (Pp #[I U l,I U J,I U K,MV o,Z A C B,Z D F E,Z u y x] 67 (0,0))):=by unfold Hid;rw[k5.2.block _ (ae M.o) Y];exact M
   obtain⟨⟨s0,s1,cu,s3,s4,s5,s6⟩,z0,z1,z2,z3,z4,z5,z6⟩:=nD bd;have br:=H a7;have a8:=H k5;clear a7 k5 r0 r1 r2 r3 r4 r5 r6;go_wp2
   go_meet
   case rel=>
    have f:=lX w5 n.heap.size (I U Q) (I U R) (I U T) (MV V) (Z W al X) (Z ba ad bc) (Z ca cl cc);have hl:=ae a6;have hz:=a8.o.2.size;have c7:=ae M;refine⟨_,t5,⟨Q,R,T,V,W,al,X,ba,ad,bc,ca,cl,cc,rfl⟩,vq bd _ _ _ _ _ _ _,?_,⟨?_,?_⟩,?_⟩;·rw[f.block _ Y Y,a8.o.2.block _ hl Y];exact a6
    ·obtain⟨q5,h5⟩:=a8.o.1;exact⟨q5,h5.onlyS f Y⟩
    ·have k:=O4.o.t a8.2;exact⟨f.os.t k.os,f.tape.t k.tape,f.output.t k.output,aA k.size f.size,λc h1 h2=>(f.block c (by have:=k.size;omega) Y).t (k.block c h1 h2)⟩
    ·rw[bo.o];rcases br.o with h1|⟨i,e,h1,h2,h3,h6⟩;·exact P3 h1
     ·refine P4 ⟨i,e,h1,h2,?_,h6⟩;have hx:ku i=sT (k:=11) i.1 i.2:=by unfold ku;rw[ai (Kk h1).1]
      rw[hx];exact gF.m 12 (gF.keep 12 h3 (λc h1 h2=>f.block c h2 (by rcases h1 with h1|h1<;>omega))) (λc h1 _=>by rcases h1 with h1|h1<;>omega)
  |false=>
   have P:=of_decide_eq_false HG;have ci:=H (a5.at_ p3 a4.lp (by cases m<;>rfl) a4.rest);have bo:L1 ((m=N/\tQ (j.bind iY))\/∃(i:VT 12×List Nat) (e:List Nat),j.bind iY=O (i,e)/\m=O e/\gF (λc=>w2.heap.size<=c/\c<n.heap.size) 12 q (N1 #[I U l,I U J,I U K,MV o,Z A C B,Z D F E,Z u y x]) (ku i)/\∀ch∈i.2,ch<256):=by
    rcases bq.o with⟨h1,h2⟩|⟨d,e,h1,h2,h3⟩
    ·refine P3 ⟨h2,P3 ?_⟩;cases j with
     |none=>rfl
     |some r=>have h1:gj 12 r=N:=h1;show iY r=N;unfold iY;rw[h1]
    ·refine P4 ⟨(d,[]),e,?_,h2,?_,λch hy=>by cases hy⟩
     ·cases j with
      |none=>cases h1
      |some r=>
       have h1:gj 12 r=O (d,e):=h1;show iY r=_;unfold iY;rw[h1];simp only[];by_cases hk:gk.kind (α:=VT 11) d=7
       ·rw[ai hk];have hw:¬gn e=[115,116,114,101,97,109]:=λg=>P ⟨by obtain⟨iv,kv,fv,vs,g,_⟩:=gF.parts (V:=d) h3;simp[nV]at g;have:=g.1;omega,by rw[h2];exact g⟩
        unfold gg;rw[ah hw]
       ·rw[ah hk]
     ·have:ku (d,[])=d:=by unfold ku;rw[ah];exact(b4 d e h1).2.2.2.1
      rw[this];exact h3
   have d1:=a5.o.c1;have f1:=a5.o.fz 1;clear P;go_wp2
   go_meet
   case rel=>
    have f:gB a w4 (w4.setCell ⟨a,1,N⟩ (I U (p3:Nat))):=(gB.refl _ _).setCell 1 _;refine⟨_,m,⟨l,J,K,o,A,C,B,D,F,E,u,y,x,rfl⟩,?_,?_,⟨⟨p3,ci⟩,O4.t f⟩,?_⟩;·rw[f.block _ (ae M.o) Y];exact M
    ·rw[f.block _ (ae a6.o) Y];exact a6
    ·rcases bo.o with h1|⟨i,e,h1,h2,h3,h6⟩;·exact P3 h1
     ·exact P4 ⟨i,e,h1,h2,gF.m 12 (gF.keep 12 h3 (λc h1 h2=>(f.block c (by have:=bb.o.size;omega) Y).t (bb.block c h2 Y))) (λc h1 _=>⟨Y,Y⟩),h6⟩
 case rest=>
 obtain⟨bm,t5,⟨Q,R,T,V,W,al,X,ba,ad,bc,ca,cl,cc,hA⟩,HI⟩:=hcut;injection hA with hA;subst hA;obtain⟨w5,cs⟩:∃w5,w5=wc:=⟨_,rfl⟩;subst cs;obtain⟨x5,z5,⟨⟨p5,h5⟩,o5⟩,a7⟩:=HI.o;have H6:=H (Bo h5 {data:=#[101,110,100,111,98,106]} cO);rw[show bl {data:=#[101,110,100,111,98,106]}=[101,110,100,111,98,106]from rfl,Bk]at H6;have bd:=H x5;have b7:=H z5;have cj:=H o5;have br:=H a7;have ct:=ae x5;clear x5 z5 h5 o5 a7 HI HG bq M a6 bs bx a4 a5 bb O3 O4;go_wp2_with fail;apply H6.o.m;rintro g w6 ⟨rfl,k6⟩;have co:=H ((k6.2.block _ ct Y).t bd);have b8:=H ((k6.2.block _ (ae b7) Y).t b7);obtain⟨⟨s0,s1,cu,s3,s4,s5,s6⟩,_⟩:=nD co;obtain⟨⟨c0,c1,c2,c3,c4,c5,c6⟩,f0,f1,f2,f3,f4,f5,f6⟩:=sF b8;have a9:=H k6;clear k6 H6;go_wp2;have f:=lX w6 w.heap.size (I U Q) (I U R) (I U T) (MV V) (Z W al X) (Z ba ad bc) (Z ca cl cc);have e7:=pq b8 (I U Q) (I U R) (I U T) (MV V) (Z W al X) (Z ba ad bc) (Z ca cl cc);have c8:=a9.o.2.size;refine av (v:=N1 #[I U Q,I U R,I U T,MV V,Z W al X,Z ba ad bc,Z ca cl cc]) ?_ rfl ?_;·exact aE results128 _ _ w.heap.size 67 _ _ _ rfl e7 aK rfl aG
 ·have k:=cj.o.t a9.2;obtain⟨q6,h6⟩:=a9.o.1;refine⟨_,_,rfl,⟨_,_,_,_,_,_,_,_,_,_,_,_,_,rfl⟩,⟨⟨q6,h6.onlyS f Y⟩,f.os.t k.os,f.tape.t k.tape,f.output.t k.output,aA k.size f.size,λc h1 h2=>(f.block c (by have:=k.size;omega) Y).t (k.block c h1 h2)⟩,?_⟩;rcases br.o with⟨h1,h2⟩|⟨i,e,h1,h2,h3,h8⟩;·exact P3 ⟨by rw[h1];rfl,b5 h2⟩
  ·have bi:=b6.o i e h1;rw[h2];simp only[Option.bind_some];cases ht:gg [101,110,100,111,98,106] e with
   |none=>rw[ht]at bi;exact P3 ⟨rfl,P3 bi⟩
   |some cv=>rw[ht]at bi;exact P4 ⟨i,cv,bi,rfl,gF.m 12 (gF.keep 12 h3 (λc h1 h2=>(f.block c Y Y).t (a9.2.block c h2 Y))) (λc h1 _=>Y),h8⟩
end
section
def zQ{f:Nat}{b:VT 12}(h:ly f 12 b=PV):(gk.filters (α:=VT 11) b).length<=4:=by
 unfold ly at h;simp only[bN]at h;obtain⟨⟨⟨_,c⟩,a⟩,_⟩:=h;unfold j9 at c;simp only[bN]at c;have e:=c.2;by_cases d:gk.kind (α:=VT 11) b=8
 ·unfold kA at a;rw[d]at a;simp only[j5,bN,bT]at a;exact a.1.1.2
 ·rw[ar d,Bool.false_or,bT]at e;rw[e];exact aH _
def qB{b:List (VT 12)}{d:Int}{V:VT 12}(c:V∈b)(h:4<(gk.filters (α:=VT 11) V).length):jb b d=P2:=by rw[Bool.eq_false_iff];intro a;rw[qL]at a;simp only[bN,cN]at a;have:=zQ (a.2.1 V c);omega
def sh{a:List (VT 12)}{c:Int}(h:100<G a):jb a c=P2:=by rw[Bool.eq_false_iff];intro b;unfold jb at b;simp only[bN,bT]at b;omega
def LH(a:Nat):∀c∈gE a,c<=57:=by
 induction a using Nat.strongRecOn with
 |ind a d=>
  by_cases h:a<10
  ·intro c b;rw[Cm h]at b;simp at b;omega
  ·intro c b;rw[dg h]at b;rcases bG.1 b with h1|h1;·exact d (a/10) Y c h1
   ·exact d (a%10) Y c h1
def nw(c:List Nat):Prop:=∀b a,gT c=O (b,a)->jb (b.map Prod.fst) a=P2
def nw.of_none{a:List Nat}(h:gT a=N):nw a:=λd c b=>by rw[h]at b;cases b
def Pg(a:List Nat)(c:List (VT 12×List Nat))(f r:List Nat):Prop:=G f=G c/\∃b e,f_ [37,80,68,70,45,49,46,52,10] a=O b/\G r+2<=e /\
 g_ (G a) (G b+2) 0 (f9 b)=(g_ (G a) e (G c) (f9 r)).map λd=>((c++d.1.1,f++d.1.2),d.2)
def Pg.start{b a:List Nat}(h:f_ [37,80,68,70,45,49,46,52,10] b=O a):Pg b [] [] a:=by refine⟨rfl,a,G a+2,h,ag _,?_⟩;cases g_ (G b) (G a+2) ([]:List (VT 12×List Nat)).length (f9 a)<;>rfl
def Pk{a:List Nat}(h:f_ [37,80,68,70,45,49,46,52,10] a=N):nw a:=.of_none (by unfold gT;rw[h])
section
variable{a:List Nat}{c:List (VT 12×List Nat)}{d r:List Nat}
def Pg.doc(h:Pg a c d r):∃e,G r+2<=e/\gT a=match g_ (G a) e (G c) (f9 r)with
  |none=>N
  |some b=>match jX (c++b.1.1).length (d++b.1.2) b.2 with
   |none=>N
   |some g=>match lG (c++b.1.1).length g with
    |none=>N
    |some f=>match lJ (G a-b.2.length) f.2 with
     |none=>N
     |some _=>O (c++b.1.1,f.1):=by
 obtain⟨_,i,e,h1,h2,h3⟩:=h;refine⟨e,h2,?_⟩;unfold gT;rw[h1];simp only[];rw[h3];cases g_ (G a) e (G c) (f9 r)<;>rfl
def xw{b:List Nat}(h:b.takeWhile pB=[120,114,101,102]):f_ [120,114,101,102] b=O (b.dropWhile pB)/\([120,114,101,102]:List Nat).isPrefixOf b=PV:=by
 have h1:b=[120,114,101,102]++b.dropWhile pB:=by rw[<-h];exact(List.takeWhile_append_dropWhile).s
 generalize b.dropWhile pB=e at *;subst h1;exact⟨rfl,rfl⟩
def xp{e:List Nat}{f:List Nat}(h:f_ [120,114,101,102,10] e=O f):e.takeWhile pB=[120,114,101,102]:=by
 have:=(gD h).2;unfold f_ at h;split at h
 ·next b=>
  rw[Br]at b;have b:=of_decide_eq_true b;have h1:e=[120,114,101,102,10]++f:=by rw[<-this,<-b.2];simp only[ay];rw[b_ b.1];exact(dd _ _).s
  rw[h1];rfl
 ·cases h
def Pg.table(h:Pg a c d r)(f:gn (f9 r)=[120,114,101,102]):gT a=(tS (G c) (G a-(f9 r).length) (lP (mO::d.map lW) ((O (gm (f9 r))).bind (f_ ([10,48,32]++gE (G d+1)++[10]))))).map λm=>(c,m):=by
 obtain⟨e,n,j⟩:=h.doc;unfold gn at f;rw[jq]at f;obtain⟨h1,h2⟩:=xw f;have k:g_ (G a) e (G c) (f9 r)=O (([],[]),f9 r):=by obtain⟨g,rfl⟩:∃g,e=g+1:=⟨e-1,Y⟩;simp only[g_];rw[ai h2]
 rw[j,k];simp only[cF];rw[h.1];have i:jX (G c) d (f9 r)=lP (mO::d.map lW) ((O (gm (f9 r))).bind (f_ ([10,48,32]++gE (G c+1)++[10]))):=by
  unfold jX gm;rw[jq,show([120,114,101,102,10,48,32]++gE (G c+1)++[10]:List Nat)=[120,114,101,102]++([10,48,32]++gE (G c+1)++[10])by simp,takes_app,h1];simp only[Option.bind_some];cases f_ ([10,48,32]++gE (G c+1)++[10]) ((f9 r).dropWhile pB)with
  |none=>rw[Fz]
  |some b=>
   show(match iH mO b with|none=>N|some b=>jM d b)=lP (d.map lW) (iH mO b);cases iH mO b with
   |none=>rw[Fz]
   |some o=>rw[Jc]
 rw[i];cases lP (mO::d.map lW) ((O (gm (f9 r))).bind (f_ ([10,48,32]++gE (G c+1)++[10])))with
 |none=>rfl
 |some b=>
  unfold tS;simp only[Option.bind_some];cases lG (G c) b with
  |none=>rfl
  |some l=>simp only[Option.bind_some];cases lJ (G a-(f9 r).length) l.2<;>rfl
def Pg.object(h:Pg a c d r)(P:gn (f9 r)≠[120,114,101,102]):(gn (f9 r)≠gE (G c+1)->nw a)/\(100<=G c->nw a)/\(tQ (pW (O (gm (f9 r))))->nw a) /\
  ∀f i,gn (f9 r)=gE (G c+1)->pW (O (gm (f9 r)))=O (f,i)->Pg a (c++[f]) (d++[G a-(f9 r).length]) i:=by
 obtain⟨v,W,x⟩:=h.doc;obtain⟨o,rfl⟩:∃o,v=o+1:=⟨v-1,Y⟩;have k:jS (G c+1) (f9 r)=if gn (f9 r)=gE (G c+1)then pW (O (gm (f9 r)))else N:=by
  unfold jS;rw[show gg (gE (G c+1)) (f9 r)=if gn (f9 r)=gE (G c+1)then O (gm (f9 r))else N from rfl];by_cases g:gn (f9 r)=gE (G c+1)
  ·rw[ai g,ai g];unfold pW;simp only[Option.bind_some];cases gg [48] (gm (f9 r))with
   |none=>rfl
   |some Q=>
    simp only[Option.bind_some];cases gg [111,98,106] Q with
    |none=>rfl
    |some R=>
     simp only[Option.bind_some];cases iY R with
     |none=>rfl
     |some f=>simp only[Option.bind_some];cases gg [101,110,100,111,98,106] f.2<;>rfl
  ·rw[ah g,ah g]
 by_cases j:([120,114,101,102]:List Nat).isPrefixOf (f9 r)=PV
 ·have L:gT a=N:=by
   rw[x];simp only[g_];rw[ai j];simp only[cF];have J:jX (G c) d (f9 r)=N:=by
    unfold jX;cases y:f_ ([120,114,101,102,10,48,32]++gE (G c+1)++[10]) (f9 r)with
    |none=>rfl
    |some q=>
     exfalso;rw[show([120,114,101,102,10,48,32]++gE (G c+1)++[10]:List Nat)=[120,114,101,102,10]++([48,32]++gE (G c+1)++[10])by simp,takes_app]at y;cases D:f_ [120,114,101,102,10] (f9 r)with
     |none=>rw[D]at y;cases y
     |some u2=>apply P;unfold gn;rw[jq];exact xp D
   rw[J]
  have p:=nw.of_none L;refine⟨λ_=>p,λ_=>p,λ_=>p,λf i g=>?_⟩;exfalso;have h1:(f9 r).takeWhile pB=gE (G c+1):=by have:=g;unfold gn at this;rw[jq]at this;exact this
  rw[Br]at j;have j:=(of_decide_eq_true j).2;obtain⟨q,M⟩:∃q,f9 r=120::q:=by
   match hr:f9 r,j with
   |b::q,j=>simp at j;exact⟨q,by rw[j.1]⟩
  rw[M,cL,ai cO]at h1;have:=LH (G c+1) 120 (by rw[<-h1];simp);omega
 ·have C:g_ (G a) (o+1) (G c) (f9 r)=match jS (G c+1) (f9 r)with
    |none=>N
    |some (f,i)=>(g_ (G a) o (G c+1) (f9 i)).map λs=>((f::s.1.1,(G a-(f9 r).length)::s.1.2),s.2):=by
   simp only[g_];rw[ah j];rfl
  have u:jS (G c+1) (f9 r)=N->nw a:=λp=>.of_none (by rw[x,C,p]);have A:∀f i,jS (G c+1) (f9 r)=O (f,i)->∀m n,gT a=O (m,n)->f∈m/\G c<G m:=λf i l m n e=>by
   rw[x,C,l]at e;simp only[]at e;cases B:g_ (G a) o (G c+1) (f9 i)with
   |none=>rw[B]at e;cases e
   |some s=>
    rw[B]at e;simp only[aZ]at e;split at e;·cases e
    ·split at e;·cases e
     ·split at e;·cases e
      ·cases e;exact⟨eA,by simp only[ak,aj];omega⟩
  refine⟨λg=>u (by rw[k,ah g]),λT=>?_,λw=>?_,λf i g l=>?_⟩
  ·cases l:jS (G c+1) (f9 r)with
   |none=>exact u l
   |some E=>intro m n e;have:=(A E.1 E.2 l m n e).2;exact sh (by rw[aw];omega)
  ·by_cases g:gn (f9 r)=gE (G c+1)
   ·rw[ai g]at k;rcases w with w|⟨f,i,l,F⟩;·exact u (k.t w)
    ·intro m n e;have:=(A f i (k.t l) m n e).1;exact qB (V:=f.1) (List.mem_map_of_mem (f:=Prod.fst) this) F
   ·exact u (by rw[k,ah g])
  ·rw[ai g,l]at k;obtain⟨K,S,z,h1,h2,h3⟩:=h;have X:=nU k;have aa:=iz r;obtain⟨t,rfl⟩:∃t,z=t+1:=⟨z-1,Y⟩;refine⟨by simp[K],S,t,h1,Y,?_⟩;rw[h3];simp only[g_];rw[ah j,k];simp only[ak,aj,aI];cases g_ (G a) t (G c+0+1) (f9 i)with
   |none=>rfl
   |some s=>simp
end
end
def vB{k:Nat}{d:gk (VT k)}(h:Bd (k:=k+1) d){a:List (List Nat×VT k)}(l:∀u∈a,u∈d.keys.zip d.items)(m:G a<=200001){f:List Nat}(q:G f<=200001)(r:∀o∈f,o<=100000):Bd (k:=k+1) (⟨8,0,0,[],a.map Prod.snd,a.map Prod.fst,f⟩:gk (VT k)):=by
 refine⟨by show 8<=9;decide,⟨by show _<=(0:Int);decide,by show(0:Int)<=_;decide⟩,by show 0<=_;decide,by show(ge []).size<=_;decide,by show(a.map Prod.snd).length<=_;rw[aw];exact m,by show(a.map Prod.fst).length<=_;rw[aw];exact m,q,λn b=>?_,r,λv i=>?_⟩
 ·have b:n<(a.map Prod.fst).length:=b;show(ge ((a.map Prod.fst).getD n [])).size<=_;rw[ax,af b];simp only[Option.getD_some];have h1:=cq b;obtain⟨⟨e,c⟩,h2,h3⟩:=cT.1 h1;rw[<-h3];have p:=(fq (l _ h2)).1;obtain⟨t,j,s⟩:=cK p;have g:=h.2.2.2.2.2.2.2.1 t j;rw[ax,af j]at g;simp only[Option.getD_some]at g;rw[show(e,c).1=e from rfl,<-s];exact g
 ·have i:v∈a.map Prod.snd:=i;obtain⟨⟨e,c⟩,h2,rfl⟩:=cT.1 i;exact h.2.2.2.2.2.2.2.2.2 _ (fq (l _ h2)).2
def qb(x:VT 12×List Nat):Prop:=Bd x.1/\(gk.kind (α:=VT 11) x.1=8->gk.text (α:=VT 11) x.1=[])/\(∃b:List tV,gk.filters (α:=VT 11) x.1=b.map λa=>a.1)/\(∀a∈x.2,a<256)/\x.2.length<=200000
def Py{k:Nat}{c:gk (VT k)}{r d:List Nat}{b:gk (VT k)×List Nat}(h:ju c r=O (b,d)):b.2.length<=G r:=by
 unfold ju at h;split at h;·cases h
 ·next a e1=>
  have h1:G a<=G r:=by
   cases e2:f_ [10] r with
   |some e=>rw[e2]at e1;cases e1;have:=(gD e2).1;omega
   |none=>rw[e2]at e1;have:=(gD (s:=[13,10]) (by simpa using e1)).1;omega
  split at h;·cases h
  ·split at h
   ·split at h;·cases h
    ·split at h
     ·split at h;·cases h
      ·cases h;show(a.take _).length<=_;rw[ay];omega
     ·cases h
   ·cases h
def IQ:∀c:List (Nat×List Nat),∃b:List tV,(c.map λa=>jy (ge a.2))=b.map λd=>d.1
 | []=>⟨[],rfl⟩
 |a::c=>by obtain⟨b,h⟩:=IQ c;exact⟨⟨jy (ge a.2),pV _⟩::b,dV (List.cons (jy (ge a.2))) h⟩
def ff{b:List (Nat×List Nat)}{a:List Nat}(h:kC b=O a):∃c:List tV,a=c.map λd=>d.1:=by
 rw[oY]at h;split at h
 ·cases h;exact IQ b
 ·cases h
def M9{r q:List Nat}{x:VT 12×List Nat}(h:iY r=O (x,q))(g:G r<=200000):Bd x.1/\(gk.kind (α:=VT 11) x.1=8->gk.text (α:=VT 11) x.1=[])/\(∃d:List tV,gk.filters (α:=VT 11) x.1=d.map λe=>e.1)/\x.2.length<=200000:=by
 have z:=o_ h g;unfold iY at h;split at h;·cases h
 ·next a B e1=>
  have f:=l_ e1 g;have j:=qO e1 g;have n:Bd a/\(gk.kind (α:=VT 11) a=8->gk.text (α:=VT 11) a=[])/\(∃d:List tV,gk.filters (α:=VT 11) a=d.map λe=>e.1)/\([]:List Nat).length<=200000:=⟨j,λp=>absurd p f.2.2.2.1,⟨[],f.2.2.2.2.1⟩,eA⟩;split at h
  ·split at h
   ·next C e2=>
    have A:=Kk h;have t:x.2.length<=200000:=by have h1:=Py h;have h2:=gQ e2;have h3:=iQ e1;omega
    have w:∃b,jg (k:=11) a=O b/\x.1=b:=by
     unfold ju at h;split at h;·cases h
     ·split at h;·cases h
      ·split at h
       ·split at h;·cases h
        ·split at h
         ·split at h;·cases h
          ·next b c=>cases h;exact⟨b,c,rfl⟩
         ·cases h
       ·cases h
    obtain⟨b,c,u⟩:=w;have m:qv (k:=12) b:=og (k:=11) f c;unfold jg at c;simp only[Option.map_eq_some_iff]at c;obtain⟨d,e4,rfl⟩:=c;rw[u];have l:∃i:List tV,d=i.map λe=>e.1:=by
     unfold ii at e4;split at e4;·cases e4
     ·exact ff e4
    refine⟨vB j (λe v=>(List.mem_filter.1 v).1) ?_ ?_ ?_,λ_=>rfl,l,t⟩
    ·have h1:((h_ ((gk.keys (α:=VT 11) a).zip (gk.items (α:=VT 11) a))).map Prod.snd).length<=200000:=m.1;rw[aw]at h1;exact aA h1 Y
    ·have h1:G d<=200000:=m.2.2.1;omega
    ·obtain⟨i,rfl⟩:=l;intro y s;obtain⟨o,_,rfl⟩:=cT.1 s;have:=o.2;unfold uY at this;omega
   ·cases h;exact n
  ·cases h;exact n
def M5{r c:List Nat}{a:VT 12×List Nat}(h:pW (O r)=O (a,c))(m:G r<=200000)(i:∀b∈a.2,b<256):qb a:=by
 unfold pW at h;simp only[Option.bind_some]at h;cases h1:gg [48] r with
 |none=>rw[h1]at h;cases h
 |some k=>
  rw[h1]at h;simp only[Option.bind_some]at h;cases h2:gg [111,98,106] k with
  |none=>rw[h2]at h;cases h
  |some l=>
   rw[h2]at h;simp only[Option.bind_some]at h;cases h3:iY l with
   |none=>rw[h3]at h;cases h
   |some b=>rw[h3]at h;simp only[Option.bind_some,Option.map_eq_some_iff]at h;obtain⟨p,_,j⟩:=h;cases j;have n:=gQ h1;have o:=gQ h2;obtain⟨d,e,f,g⟩:=M9 (x:=b.1) (q:=b.2) h3 Y;exact⟨d,e,f,i,g⟩
section
variable{w w':Gr}
structure Rw(w:Gr)(db:Nat)(S:ByteArray)(wx:Gr)(t:Option (List Nat))(ov:GI)(vs:List GI)(rt:Int)(pv:GI)(ps:List Nat):Prop where
 below:LT w.heap.size w wx
 rb:wx.heap[w.heap.size]?=O (Pp #[Z N 0 0,I U 0] 31 (0,0))
 sn:∃p,Sn (w.heap.size+1) S wx p t
 dlt:w.heap.size+2<=db
 dbk:wx.heap[db]?=O (Pp #[ov,I U rt] 31 (0,0))
 own:wx.ownsRow (db+1) 67 7 ov (G vs) (vs.flatMap cellsOf)
 ownp:wx.ownsRow (db+1) 3 1 pv (G ps) (ps.map λp:Nat=>I U p)
 frm:∀x∈vs,mi x
 few:G vs+gP t<=200001
 fewp:G ps+gP t<=200001
 pls:∀p∈ps,p<=200000
section
variable{d:Nat}{S:ByteArray}{f:Gr}{t:Option (List Nat)}{l m:GI}{n:List GI}{s:Int}{o:List Nat}{Vs:List (VT 12)}
def Rw.step{t':Option (List Nat)}(h:Rw w d S f t l n s m o)(k:jP (w.heap.size+1) S f w' t')(r:gP t'<=gP t):Rw w d S w' t' l n s m o/\(TV (d+1) 12 f l m n Vs->TV (d+1) 12 w' l m n Vs):=by have b:=h.dlt;have i:=h.below.size;refine⟨⟨⟨k.2.os.t h.below.os,k.2.tape.t h.below.tape,k.2.output.t h.below.output,aA i k.2.size,λa h1=>(k.2.block a Y Y).t (h.below.block a h1)⟩,by rw[k.2.block _ (ae h.rb) Y];exact h.rb,k.1,b,by rw[k.2.block _ (ae h.dbk) Y];exact h.dbk,uf h.own k.2 Y,uf h.ownp k.2 Y,h.frm,by have:=h.few;omega,by have:=h.fewp;omega,h.pls⟩,λtv=>⟨tv.1,λj p y e g=>gF.keep 12 (tv.2 j p y e g) (λa q c=>k.2.block a c Y)⟩⟩
def Rw.belowS(h:Rw w d S f t l n s m o)(b:LT f.heap.size f w'):Rw w d S w' t l n s m o/\(TV (d+1) 12 f l m n Vs->TV (d+1) 12 w' l m n Vs):=by obtain⟨c,a⟩:=h.sn;exact h.step ⟨⟨c,a.other b⟩,.of_below b⟩ (ag _)
def Rw.place(h:Rw w d S f t l n s m o){j:Nat}{k:GI}(A:j<=200000)(x:G o+1+gP t<=200001)(z:w'.ownsRow (d+1) 3 1 k (G o+1) ((o.map λj:Nat=>I U j)++[I U j]))(g:f.grownBy w' m.ownBlock)(C:∀a,k.ownBlock=O a->m.ownBlock=O a\/f.heap.size<=a):Rw w d S w' t l n s k (o++[j])/\(TV (d+1) 12 f l m n Vs->TV (d+1) 12 w' l k n Vs):=by
 have v:=h.dlt;have E:=h.below.size;have B:=h.ownp.lt;have r:∀a,a<f.heap.size->m.ownBlock≠O a->w'.heap[a]?=f.heap[a]?:=λa h1 h2=>g.block a h1 (λe=>h2 e.s);have p:∀a,a<d+1->a<f.heap.size->w'.heap[a]?=f.heap[a]?:=λa h1 h2=>r a h2 (λe=>by have:=B a e;omega);obtain⟨K,i⟩:=h.sn;refine⟨⟨⟨g.os.t h.below.os,g.tape.t h.below.tape,g.output.t h.below.output,aA E g.size,λa h1=>(p a Y Y).t (h.below.block a h1)⟩,by rw[p _ Y (ae h.rb)];exact h.rb,⟨K,by rw[p _ Y i.lt];exact i.blk,i.lp,i.ls,i.rest⟩,v,by rw[p _ Y (ae h.dbk)];exact h.dbk,?_,?_,h.frm,h.few,?_,?_⟩,λtv=>⟨tv.1,λF u q D b=>?_⟩⟩
 ·exact h.own.kept g (by
   cases y:l.ownBlock with
   |none=>exact P3 rfl
   |some a=>exact P4 (λe=>xT h.own h.ownp cO a y e.s))
 ·rw[ak,bK];exact z
 ·rw[ak];exact x
 ·intro q b;rcases bG.1 b with b|b;·exact h.pls q b
  ·rw[cU]at b;subst b;exact A
 ·have J:gF (λa=>d+1<=a/\l.ownBlock≠O a/\m.ownBlock≠O a/\k.ownBlock≠O a) 12 f u q:=gF.m 12 (tv.2 F u q D b) (λa h1 h2=>⟨h1.1,h1.2.1,h1.2.2,λe=>by
   rcases C a e with c|c;·exact h1.2.2 c
   ·omega⟩)
  exact gF.m 12 (gF.keep 12 J (λa h1 h2=>r a h2 h1.2.2.1)) (λa h1 _=>⟨h1.1,h1.2.1,h1.2.2.2⟩)
def Rw.item(h:Rw w d S f t l n s m o){x:GI}(Q:mi x)(L:G n+1+gP t<=200001){g:GI}(E:w'.ownsRow (d+1) 67 7 g (G n+1) (n.flatMap cellsOf++cellsOf x))(k:f.grownBy w' l.ownBlock)(F:∀b,g.ownBlock=O b->l.ownBlock=O b\/f.heap.size<=b):Rw w d S (w'.setCell ⟨d,0,N⟩ g) t g (n++[x]) s m o/\∀{v:VT 12} {Px:Nat->Prop},(∀b,Px b->d+1<=b/\l.ownBlock≠O b/\m.ownBlock≠O b)->gF Px 12 f x v->TV (d+1) 12 f l m n Vs->TV (d+1) 12 (w'.setCell ⟨d,0,N⟩ g) g m (n++[x]) (Vs++[v]):=by
 have J:=h.dlt;have p:=h.below.size;have D:=h.own.lt;have C:∀b,b<f.heap.size->l.ownBlock≠O b->b≠d->(w'.setCell ⟨d,0,N⟩ g).heap[b]?=f.heap[b]?:=λb h1 h2 h3=>by rw[kW _ h3,k.block b h1 (λe=>h2 e.s)]
 have y:∀b,b<d->b<f.heap.size->(w'.setCell ⟨d,0,N⟩ g).heap[b]?=f.heap[b]?:=λb h1 h2=>C b h2 (λe=>by have:=D b e;omega) Y;have K:w'.heap[d]?=O (Pp #[l,I U s] 31 (0,0)):=by rw[k.block _ (ae h.dbk) (λe=>by have:=D _ e.s;omega)];exact h.dbk
 obtain⟨T,r⟩:=h.sn;refine⟨⟨⟨k.os.t h.below.os,k.tape.t h.below.tape,k.output.t h.below.output,by have:=k.size;simp[World.setCell];omega,λb h1=>(y b Y Y).t (h.below.block b h1)⟩,by rw[y _ Y (ae h.rb)];exact h.rb,⟨T,by rw[y _ Y r.lt];exact r.blk,r.lp,r.ls,r.rest⟩,J,?_,?_,?_,?_,?_,h.fewp,h.pls⟩,?_⟩;·rw[lV _ K];rfl
 ·rw[ak,dE];have:=aR (a:=⟨d,0,N⟩) E (λe=>absurd (E.lt d e).1 Y) g;simpa using this
 ·have:=h.ownp.kept k (by
   cases M:m.ownBlock with
   |none=>exact P3 rfl
   |some b=>exact P4 (λe=>xT h.own h.ownp cO b e.s M))
  exact aR this (λe=>absurd (this.lt d e).1 Y) g
 ·intro V p;rcases bG.1 p with p|p;·exact h.frm V p
  ·rw[cU]at p;subst p;exact Q
 ·rw[ak];exact L
 ·intro v Px u P tv;refine⟨by rw[ak,ak,tv.1];rfl,?_⟩;intro z A B i j;have R:gF (λb=>d+1<=b/\l.ownBlock≠O b/\m.ownBlock≠O b/\g.ownBlock≠O b) 12 f A B:=by
   rcases bU z (G n) with c|c
   ·rw[aP c]at i;rw[aP Bc]at j;refine gF.m 12 (tv.2 z A B i j) (λb h1 h2=>⟨h1.1,h1.2.1,h1.2.2,λe=>?_⟩);rcases F b e with q|q;·exact h1.2.1 q
    ·omega
   ·rw[aF c]at i;rw[aF Bc]at j;rw[<-tv.1]at j;obtain⟨rfl,rfl⟩:x=A/\v=B:=by
     match W:z-G n,i,j with
     |0,i,j=>exact⟨by simpa using i,by simpa using j⟩
     |X+1,i,j=>simp at i
    refine gF.m 12 P (λb h1 h2=>⟨(u b h1).1,(u b h1).2.1,(u b h1).2.2,λe=>?_⟩);rcases F b e with q|q;·exact(u b h1).2.1 q
    ·omega
  refine gF.m 12 (gF.keep 12 R (λb h1 h2=>C b h2 h1.2.1 Y)) (λb h1 _=>⟨h1.1,h1.2.2.2,h1.2.2.1⟩)
def BO(b:List Nat)(d:Nat)(f:Gr)(t:Option (List Nat))(l:GI)(n:List GI)(m:GI)(o:List Nat):Prop:=match t with
 |none=>nw b
 |some r=>∃a:List (VT 12×List Nat),TV (d+1) 12 f l m n (a.map ku)/\(∀c∈a,qb c)/\Pg b a o r
def Hl(b:List Nat)(d:Nat)(f:Gr)(t:Option (List Nat))(l:GI)(n:List GI)(m:GI)(s:Int):Prop:=(t=N/\nw b)\/∃a:List (VT 12×List Nat),t=O []/\TV (d+1) 12 f l m n (a.map ku)/\(∀c∈a,qb c)/\gT b=O (a,s)
end
end
section
variable{w a:Gr}
def Jt{g i:Gr}{f b j m l:Nat}{e:GI}{n:List GI}(h:g.ownsRow b j m e l n)(r:gB f g i)(q:∀d,e.ownBlock=O d->d≠f):i.ownsRow b j m e l n:=by
 obtain⟨h1,h2⟩:=h;refine⟨h1,?_⟩;rcases h2 with h2|⟨d,c,o,e1,e2,k,p⟩;·exact P3 h2
 ·exact P4 ⟨d,c,o,e1,e2,by rw[r.block d (ae k) (q d (by rw[e1];rfl))];exact k,p⟩
end
section
variable{w s:Gr}
def BN(w:Gr)(f:List Nat)(i:MB)(s:Gr):Prop:=LT w.heap.size w s/\∃b ok,i=Ps (OW #[b,OV ok])/\((ok=P2/\nw f/\∃h j c k,b=N1 #[Z h j c,I U k])\/(ok=PV/\∃a e d,b=N1 #[d,I U e]/\gT f=O (a,e)/\jb (a.map Prod.fst) e=PV/\(∀l∈a,qb l)/\kG (λg=>w.heap.size<=g/\d.ownBlock≠O g) 12 w.heap.size (a.map ku) s d))
section
variable{b:Nat}{S:ByteArray}{d:Gr}{t:Option (List Nat)}{k j:GI}{l:List GI}{m:Int}{f:List Nat}{Vs:List (VT 12)}
def Rw.plin(h:Rw w b S d t k l m j f):BM (w.heap.size+1) d j f:=by
 obtain⟨o,c,e⟩:=jp h.ownp;refine⟨o,c,e,λn i=>?_⟩;obtain⟨g,u,a,q⟩:=uL h.ownp (show(f.map λr:Nat=>I U r)[n]?=O (I U (nth f n:Nat))by rw[aY,af i];unfold nth;rw[ax,af i];rfl)
 have p:=h.ownp.lt g (by rw[a];rfl);have v:=h.dlt;rw[e]at a;injection a with e1;exact⟨g,e1,Y,p.2,q⟩
def Rw.root(h:Rw w b S d t k l m j f)(e:Int):Rw w b S (d.setCell ⟨b,1,N⟩ (I U e)) t k l e j f/\(TV (b+1) 12 d k j l Vs->TV (b+1) 12 (d.setCell ⟨b,1,N⟩ (I U e)) k j l Vs):=by have g:=h.dlt;have q:=h.below.size;have a:gB b d (d.setCell ⟨b,1,N⟩ (I U e)):=(gB.refl _ _).setCell 1 _;obtain⟨u,n⟩:=h.sn;refine⟨⟨⟨a.os.t h.below.os,a.tape.t h.below.tape,a.output.t h.below.output,aA q a.size,λc h1=>(a.block c Y Y).t (h.below.block c h1)⟩,by rw[a.block _ (ae h.rb) Y];exact h.rb,⟨u,n.onlyS a Y⟩,g,by rw[lV _ h.dbk];rfl,uf h.own a Y,uf h.ownp a Y,h.frm,h.few,h.fewp,h.pls⟩,λtv=>⟨tv.1,λr v x o p=>gF.keep 12 (tv.2 r v x o p) (λc y i=>a.block c i Y)⟩⟩
end
def Rw.fin{o:Nat}{n:ByteArray}{f u W:Gr}{t:Option (List Nat)}{j:Option L2}{g k:Nat}{pv:GI}{r:List GI}{e:Int}{K:List Nat}{l:List (VT 12×List Nat)}{m:Bool}(h:Rw w o n f t (Z j g k) r e pv K)(c:LT f.heap.size f u)(y:W=(u.setCell ⟨w.heap.size,0,N⟩ (Z j g k)).setCell ⟨w.heap.size,1,N⟩ (I U e))
  (B:TV (o+1) 12 f (Z j g k) pv r (l.map ku)) (C:∀v∈l,qb v) (z:gT (bl n)=O (l,e)) (A:jb (l.map Prod.fst) e=m):W.heap[w.heap.size]?=O (Pp #[Z j g k,I U e] 31 (0,0))/\BN w (bl n) (Ps (OW #[N1 #[Z j g k,I U e],OV m])) W:=by
 have d:gB w.heap.size u W:=by rw[y];exact((gB.refl _ _).setCell 0 _).setCell 1 _
 have L:=(c.block _ (ae h.rb)).t h.rb;have i:=h.below;have P:=h.dlt;have h1:=i.size;have h2:=c.size;have b:LT w.heap.size w W:=⟨d.os.t (c.os.t i.os),d.tape.t (c.tape.t i.tape),d.output.t (c.output.t i.output),aA h1 (aA h2 d.size),λa q=>(d.block a Y Y).t ((c.block a Y).t (i.block a q))⟩;refine⟨by rw[y];exact pj L _ _,b,_,m,rfl,?_⟩;cases m with
 |false=>refine P3 ⟨rfl,λR Q x=>?_,_,_,_,_,rfl⟩;rw[z]at x;cases x;exact A
 |true=>have J:∀a,o+1<=a->a<f.heap.size->W.heap[a]?=f.heap[a]?:=λa h3 p=>(d.block a Y Y).t (c.block a p);refine P4 ⟨rfl,l,e,_,rfl,z,A,C,r,zP (Jt (wV h.own c) d (λa q=>by have:=(h.own.lt a q).1;omega)) Y,B.1,λF v M D E=>?_⟩;exact gF.m 12 (gF.keep 12 (B.2 F v M D E) (λa h3 p=>J a h3.1 p)) (λa h3 _=>⟨Y,h3.2.1⟩)
def BH(n o:GI):Prop:=∃(a h i:Int) (j:ByteArray) (e:Option L2) (g f:Nat) (k:Option L2) (m l:Nat) (b:Option L2) (d c:Nat),n=N1 #[I U a,I U h,I U i,MV j,Z e g f,Z k m l,Z b d c]/\o=N1 #[I U a,I U h,I U i,MV (if a=8 then{data:=#[]} else j),Z e g f,Z k m l,Z b d c]
def BH.vin{f:Nat->Prop}{i j:GI}{a:VT 12×List Nat}(h:BH i j)(b:gF f 12 w i (ku a))(n:qb a):gF f 12 w j a.1:=by
 obtain⟨g,z,A,B,v,y,x,C,E,D,r,u,t,rfl,rfl⟩:=h;by_cases d:gk.kind (α:=VT 11) a.1=8
 ·have c:ku a=sT (k:=11) a.1 a.2:=by unfold ku;rw[ai d]
  rw[c]at b;have e:g=8:=by obtain⟨o,p,m,q,e2,_⟩:=gF.parts (V:=(sT (k:=11) a.1 a.2:gk (VT 11))) b;simp[nV]at e2;rw[e2.1];show((gk.kind (α:=VT 11) a.1:Nat):Int)=8;omega
  rw[ai e];have h2:=gF.textTo (V:=(sT (k:=11) a.1 a.2:gk (VT 11))) b [];have l:({ (sT (k:=11) a.1 a.2:gk (VT 11))with text:=[]}:gk (VT 11))=a.1:=by have:=n.2.1 d;show({ (show gk (VT 11)from a.1)with text:=[]}:gk (VT 11))=a.1;rw[<-this];rfl
  rw[l]at h2;exact h2
 ·have c:ku a=a.1:=by unfold ku;rw[ah d]
  rw[c]at b;have e:g≠8:=by obtain⟨o,p,m,q,e2,_⟩:=gF.parts (V:=(a.1:gk (VT 11))) b;simp[nV]at e2;rw[e2.1];omega
  rw[ah e];exact b
def M6{r a:List Nat}{b:VT 12×List Nat}(h:pW (O r)=O (b,a)):G a+1<=G r:=by
 unfold pW at h;simp only[Option.bind_some]at h;cases h1:gg [48] r with
 |none=>rw[h1]at h;cases h
 |some f=>
  rw[h1]at h;simp only[Option.bind_some]at h;cases h2:gg [111,98,106] f with
  |none=>rw[h2]at h;cases h
  |some g=>
   rw[h2]at h;simp only[Option.bind_some]at h;cases h3:iY g with
   |none=>rw[h3]at h;cases h
   |some c=>rw[h3]at h;simp only[Option.bind_some,Option.map_eq_some_iff]at h;obtain⟨m,d,e⟩:=h;cases e;have i:=gQ h1;have j:=gQ h2;have k:=pK (x:=c.1) (q:=c.2) h3;have l:=gQ d;omega
def JL(g:ByteArray)(hS:g.size<=200000):K8 Qe 83 #[MV g] w (BN w (bl g)):=by
 obtain⟨i0,hk,h9,ia,e8⟩:=bu iV;obtain⟨j0,mb,mc,md,mk⟩:=bu Eg;have m0:=mK g;obtain⟨W1,ci⟩:∃W1,(w.alloc (Pp #[Z N 0 0,I U 0] 31)).alloc (Pp #[MV g,I U 0,OV P2] 146)=W1:=⟨_,rfl⟩;have b1:LT w.heap.size w W1:=by rw[<-ci];exact((aq _ _).alloc (ag _) _).alloc eA _
 have x0:W1.heap[w.heap.size]?=O (Pp #[Z N 0 0,I U 0] 31 (0,0)):=by rw[<-ci];exact mA _ (bn _ _)
 have x1:Sn (w.heap.size+1) g W1 0 (O (bl g)):=by refine⟨?_,aH _,hS,λr hr=>by cases hr;rfl⟩;rw[<-ci];have:=bn (w.alloc (Pp #[Z N 0 0,I U 0] 31)) (Pp #[MV g,I U 0,OV P2] 146);rw[aL]at this;exact this
 have H2:=H (xP x1 {data:=#[37,80,68,70,45,49,46,52,10]} cO);rw[show bl {data:=#[37,80,68,70,45,49,46,52,10]}=[37,80,68,70,45,49,46,52,10]from rfl]at H2;simp only[Option.bind_some]at H2;have b7:=H b1;have eb:=H x0;have gs:=H ci;clear b1 x0 x1 ci
 go_in
 go_upto_region 2 with fail
 rw[gs.o];go_wp2_with fail;apply H2.o.m;rintro i w2 ⟨rfl,z⟩;obtain⟨l,lc⟩:∃l,w2.heap.size=l:=⟨_,rfl⟩;obtain⟨s1,c8⟩:∃s1,f_ [37,80,68,70,45,49,46,52,10] (bl g)=s1:=⟨_,rfl⟩;rw[c8]at z;obtain⟨W3,cy⟩:∃W3,w2.alloc (Pp #[Z N 0 0,I U 0] 31)=W3:=⟨_,rfl⟩;have a7:L1 (Rw w l g W3 s1 (Z N 0 0) [] 0 (Z N 0 0) []):=by
  obtain⟨⟨p2,h2⟩,o2⟩:=z;have b3:LT w2.heap.size w2 W3:=by rw[<-cy];exact(aq _ _).alloc (ag _) _
  have h1:=b7.o.size;have hl:=ae eb;have e8:=h2.lt;have ck:gP s1<=200001:=by
   cases s1 with
   |none=>simp[gP]
   |some r=>have:=h2.len;simp only[gP];omega
  refine⟨⟨b3.os.t (o2.os.t b7.o.os),b3.tape.t (o2.tape.t b7.tape),b3.output.t (o2.output.t b7.o.output),by have:=o2.size;have:=b3.size;omega,λa hg=>(b3.block a Y).t ((o2.block a Y Y).t (b7.block a hg))⟩,by rw[b3.block _ Y,o2.block _ hl Y];exact eb,⟨p2,h2.other b3⟩,Y,by rw[<-cy,<-lc];exact bn _ _,aX _ _ _ _,aX _ _ _ _,(λd m=>by cases m),by simpa using ck,by simpa using ck,λd m=>by cases m⟩
 have dv:L1 (BO (bl g) l W3 s1 (Z N 0 0) [] (Z N 0 0) []):=by
  unfold Hid BO;cases s1 with
  |none=>exact Pk c8
  |some r=>exact⟨[],⟨rfl,λx d ad m _=>by simp at m⟩,(λd m=>by cases m),Pg.start c8⟩
 have gt:=H cy;clear z c8 cy gs H2 eb b7
 go_upto_region 4 with fail
 rw[gt.o];clear gt
 go_upto_block 0 with fail
 go_cut [6]from 13 (λpv wx=>∃(bd:Option (List Nat)) (ov:GI) (e:List GI) (b:List Nat) (t:Int),L1 (Rw w l g wx bd ov e t pv b)/\L1 (Hl (bl g) l wx bd ov e pv t))
 case first=>
  go_wp2_with fail;go_loopw [6] (λpv wr=>∃(bd:Option (List Nat)) (ov:GI) (e:List GI) (b:List Nat),L1 (Rw w l g wr bd ov e 0 pv b)/\L1 (G e=G b)/\L1 (BO (bl g) l wr bd ov e pv b)) (λ_ wr=>mS (w.heap.size+1) g wr)
  case atStart=>exact⟨s1,_,[],[],a7,rfl,dv⟩
  clear a7 dv
  case round=>
   obtain⟨bd,ov,e,b,u,kx,HI⟩:=hrel;obtain⟨ih,c9⟩:=u.o.sn;have c2:=c9.c2;have HM:=H c9.mS;have ga:=H c9;obtain⟨pa,pc,l0⟩:=jp u.o.ownp;subst l0;clear c9;cases bd with
   |none=>
    simp only[Option.isNone_none]at c2;go_wp2
    go_meet
    case rel=>exact⟨N,ov,e,b,0,u,P3 ⟨rfl,HI⟩⟩
   |some r=>
    simp only[Option.isNone_some]at c2;obtain⟨p,bm,b4,ev⟩:=HI.o;have cx:=H bm;have cv:=H b4;have f5:=H ev;have f6:=H ev.1;have d3:=H (uF ga);simp only[aZ]at d3;have m6:=iz r;have ks:=H ga.len;have ll:=u.o.fewp;have lf:=u.o.few;simp only[gP]at ll lf;clear bm b4 ev HI;go_wp2_with fail;apply d3.o.m;rintro i w1 ⟨rfl,y⟩;obtain⟨r1,ir⟩:=u.o.step (Vs:=p.map ku) y pI;have f7:=H r1;have gf:=H (ir cx);obtain⟨p1,h1⟩:=y.1;have d1:=h1.c1;have hp:p1=(bl g).length-(f9 r).length:=by have:=h1.len;have:=h1.lp;omega
    have f4:=H hp;have hs:p1<=200000:=by have:=h1.lp;omega
    have ea:=H (Bq h1);have dp:=H (EQ h1);clear r1 ir y h1 d3 u cx c2 hp;have d4:L1 (kJ (O (f9 r))=gn (f9 r)/\mJ (O (f9 r))=O (gm (f9 r))):=⟨rfl,rfl⟩;rw[d4.o.1,d4.o.2]at ea;go_wp2_with fail;apply ea.o.m;rintro i w3 ⟨rfl,k3⟩;have nd:(gm (f9 r)).length<=(f9 r).length:=(Ks _).length_le;obtain⟨r3,i2⟩:=f7.o.step (Vs:=p.map ku) k3 pI;have a7:=H r3;have d6:=H (i2 gf);obtain⟨p3,h3⟩:=k3.1;have cw:=H h3;have e1:((ge (gn (f9 r))).toList==([120,114,101,102]:List UInt8))=decide (gn (f9 r)=[120,114,101,102]):=by rw[sD,ui _ dp.o];rfl
    have cu:L1 (∀ct:List Nat,(∀d∈ct,d<256)->((ge (gn (f9 r))).toList==(ge ct).toList)=decide (gn (f9 r)=ct)):=λct hD=>by rw[ng,cJ];exact⟨λi=>Bx dp hD i,λi=>by rw[i]⟩
    obtain⟨TW,g6⟩:∃TW,ge (gn (f9 r))=TW:=⟨_,rfl⟩;rw[g6]at e1 cu ⊢;clear r3 i2 k3 h3 ea f7 gf d1 g6 dp d4;by_cases m:gn (f9 r)=[120,114,101,102]
    ·rw[aB m]at e1;have fr:=H (f5.table m);rw[<-f4.o]at fr;have gc:=H (FK cw a7.plin (by have:=a7.o.fewp;simp only[gP]at this;omega) (λx hi=>a7.pls _ (by unfold nth;rw[ax,af hi];exact cq hi)))
     clear m cu;go_wp2_with fail;apply gc.o.m;rintro i w4 ⟨rfl,k4⟩;generalize lP (mO::b.map lW) ((O (gm (f9 r))).bind (f_ ([10,48,32]++gE (G b+1)++[10])))=t4 at *;have fw:=H k4;obtain⟨p4,h4⟩:=k4.1;have gd:=H (MX h4 (G b) p1 (by have:=a7.o.fewp;simp only[gP]at this;omega) hs);clear k4 h4 gc;go_wp2_with fail;apply gd.o.m;rintro i w5 ⟨b6,t5,rfl,k5,ex⟩;have ib:=fw.o.t k5;have ck:gP t5<=gP (O (gm (f9 r))):=by rcases ex with⟨h,_⟩|⟨h,_⟩<;>rw[h]<;>simp[gP]
     obtain⟨r5,cr⟩:=a7.o.step (Vs:=p.map ku) ib ck;obtain⟨r6,cs⟩:=r5.root (Vs:=p.map ku) b6;have g1:=n5 r5.dbk;have g2:=jR 1 r5.dbk;have k:=H r6;have dr:L1 (Hl (bl g) l (w5.setCell ⟨l,1,N⟩ (I U b6)) t5 ov e (Z pa (G b) pc) b6):=by
      have hd:=fr.o;rw[<-f6.o]at hd;rcases ex with⟨h,hT⟩|⟨h,hT⟩;·rw[hT]at hd;exact P3 ⟨h,.of_none hd⟩
      ·rw[hT]at hd;exact P4 ⟨p,h,cs (cr d6),cv,hd⟩
     clear r5 cr r6 cs k5 ex ib gd fw ck;go_wp2
     go_meet
     case rel=>exact⟨t5,ov,e,b,b6,k,dr⟩
    ·rw[ar m]at e1;have cg:=H (f5.o.object m);rw[<-f4.o,<-f6.o]at cg;have li:=a7.o.fewp;have lm:=a7.o.few;simp only[gP]at li lm;have ce:=H (Ah (G b+1) Y w3);have e2:=cu.o (gE (G b+1)) (yy _);have nc:IntKind.i64.wrap ((G b:Int)+1)=((G b+1:Nat):Int):=by rw[aU];omega
     obtain⟨DD,g3⟩:∃DD,ge (gE (G b+1))=DD:=⟨_,rfl⟩;rw[g3]at e2 ce;obtain⟨bf,hG⟩:∃bf,(!decide (gn (f9 r)=gE (G b+1)/\G b<100))=bf:=⟨_,rfl⟩;clear m cu g3
     go_upto_region 12 with fail
     go_cut [53]from 19 to 67 (λbv wx=>bv=OV bf/\wx=w3)
     case first=>
      by_cases q0:gn (f9 r)=gE (G b+1)
      ·rw[aB q0]at e2;by_cases q1:G b<100
       ·have m1:decide (100<=(G b:Int))=P2:=eB;have HD:L1 (bf=P2):=by rw[<-hG,aB ⟨q0,q1⟩];rfl
        clear hG q0 q1;go_wp2_with fail;apply ce.o.m;rintro i s ⟨rfl,hw⟩;have hw:=hw.s;subst hw;go_wp2
        go_meet
        case rel=>exact⟨by rw[HD.o],rfl⟩
       ·have m1:decide (100<=(G b:Int))=PV:=eB;have HD:L1 (bf=PV):=by rw[<-hG,ar (λh=>q1 h.2)];rfl
        clear hG q0 q1;go_wp2_with fail;apply ce.o.m;rintro i s ⟨rfl,hw⟩;have hw:=hw.s;subst hw;go_wp2
        go_meet
        case rel=>exact⟨by rw[HD.o],rfl⟩
      ·rw[ar q0]at e2;have HD:L1 (bf=PV):=by rw[<-hG,ar (λh=>q0 h.1)];rfl
       clear hG q0;go_wp2_with fail;apply ce.o.m;rintro i s ⟨rfl,hw⟩;have hw:=hw.s;subst hw;go_wp2
       go_meet
       case rel=>exact⟨by rw[HD.o],rfl⟩
     case rest=>
     obtain⟨rfl,b5⟩:=hcut;have b5:=b5.s;subst b5;obtain⟨C,co⟩:∃C,(if bf=PV then N else O (gm (f9 r)))=C:=⟨_,rfl⟩;have d2:L1 ((pW C=N/\nw (bl g)/\C=N)\/(C=O (gm (f9 r))/\gn (f9 r)=gE (G b+1))):=by
      by_cases hq:gn (f9 r)=gE (G b+1)/\G b<100
      ·rw[aB hq]at hG;subst hG;exact P4 ⟨co.s,hq.1⟩
      ·rw[ar hq]at hG;subst hG;have h2:C=N:=co.s;refine P3 ⟨by rw[h2];rfl,?_,h2⟩;by_cases hz:gn (f9 r)=gE (G b+1);·exact cg.2.1 (Nat.le_of_not_lt λh=>hq ⟨hz,h⟩)
       ·exact cg.1 hz
     have dw:L1 (gP C<=gP (O (gm (f9 r)))):=by unfold Hid;rw[<-co];cases bf<;>simp[gP]
     have fs:L1 (G b+1+gP C<=200001/\G e+1+gP C<=200001):=by
      rcases d2.o with⟨_,_,h⟩|⟨h,hq⟩;·rw[h];simp only[L1,gP];omega
      ·have h1:(gn (f9 r)).length+(gm (f9 r)).length=(f9 (f9 r)).length:=by unfold gn gm;rw[<-ak,List.takeWhile_append_dropWhile]
       have h2:1<=(gE (G b+1)).length:=by
        by_cases g0:G b+1<10;·rw[Cm g0];exact ag _
        ·rw[dg g0,ak,Cm (Nat.mod_lt _ Y)];simp
       rw[hq,jq]at h1;rw[h];simp only[L1,gP];omega
     have d5:=H co;clear hG co e1 e2 ce
     go_upto_if 53 with fail
     go_cut []from 19 to 67 (λwx=>L1 (jP (w.heap.size+1) g w3 wx C))
     case first=>
      cases bf with
      |true=>
       have HE:L1 (C=N):=d5.o.s;have kh:=H (qW cw);go_wp2_with fail;apply kh.o.m;rintro i w4 ⟨rfl,h4,o4⟩;have K4:L1 (jP (w.heap.size+1) g w3 w4 C):=by rw[HE.o];exact⟨⟨_,h4⟩,o4⟩
       clear h4 o4;go_wp2
       go_meet
       case rel=>exact K4
      |false=>
       have HE:L1 (C=O (gm (f9 r))):=d5.o.s;have K4:L1 (jP (w.heap.size+1) g w3 w3 C):=by rw[HE.o];exact cw.toS
       go_wp2
       go_meet
       case rel=>exact K4
     case rest=>
     obtain⟨w4,l5⟩:∃w4,w4=wc:=⟨_,rfl⟩;subst l5;obtain⟨r4,i3⟩:=a7.o.step (Vs:=p.map ku) hcut dw;have B:LT w4.heap.size w4 (w4.alloc (Pp #[I U (p1:Nat)] 3)):=(aq _ _).alloc (ag _) _;obtain⟨r5,cr⟩:=r4.belowS (Vs:=p.map ku) B;have f8:=H r5;have gi:=H (cr (i3 d6));have ho:=r5.ownp;have lo:=dw.o;simp only[gP]at lo;have m7:=ae r4.dbk;have fz:L1 (∀(q:Nat) (a8:GI),[I U (p1:Nat)][q]?=O a8->(w4.alloc (Pp #[I U (p1:Nat)] 3)).cell? ((⟨w4.heap.size,0,N⟩:L2).add q)=O a8):=by intro q a8 hu;rw[pR,iI (bn w4 _)];simpa using hu
     clear r4 i3 r5 cr B hcut a7 d6 cw d5;go_wp2_with (at_builtin;refine uT _ rfl (.tmp 56) (.tmp 58) 52 rfl (l+1) 3 j0 _ 1 8 cG mb mc md mk rfl cO (Z pa (G b) pc) (G b) (b.map λih:Nat=>I U ih) rfl ho ⟨w4.heap.size,0,N⟩ 1 1 [I U (p1:Nat)] rfl rfl fz ?hone ?h63 ?hby ?hbs ?_)
     case hone=>first|rfl|(intro a8 hu;simp at hu;subst hu;rfl)
     case h63=>unfold maxLen;omega
     case hby=>omega
     case hbs=>first|omega|(simp;omega)
     intro ni D e9 hh da;obtain⟨r6,cs⟩:=f8.o.place (Vs:=p.map ku) hs fs.1 e9 hh (λa hg=>by simpa[aL]using da a hg);have k:=H r6;have gl:=H (cs gi);obtain⟨p6,h6⟩:=r6.sn;have f3:=H (MT h6);obtain⟨ml,mm,l1⟩:=jp e9;subst l1;clear r6 cs h6 e9 hh da ho fz f8 gi;go_wp2_with fail;apply f3.o.m;rintro i w7 ⟨v7,t7,rfl,⟨J,K,L,M,aa,al,ac,B,ao,bc,ca,cl,cc,rfl⟩,k7,ey⟩;have eo:gP t7<=gP C/\(gP t7+1<=gP C\/gP t7=0):=by
      rcases ey with⟨h,_⟩|⟨d,fd,h1,h2,_⟩;·rw[h];simp[gP]
      ·rw[h2];cases C with
       |none=>cases h1
       |some q1=>have:=M6 h1;simp only[gP];omega
     obtain⟨r7,i4⟩:=k.o.step (Vs:=p.map ku) k7 eo.1;have ic:=k.o.own.lt;have m9:=ae k.dbk;have il:=k.o.ownp.lt;obtain⟨W8,c3⟩:∃W8,(w7.alloc (Pp #[I U J,I U K,I U L,MV M,Z aa al ac,Z B ao bc,Z ca cl cc] 67)).alloc (Pp #[I U J,I U K,I U L,MV M,Z aa al ac,Z B ao bc,Z ca cl cc] 67)=W8:=⟨_,rfl⟩;have b8:LT w7.heap.size w7 W8:=by rw[<-c3];exact((aq _ _).alloc (ag _) _).alloc eA _
     obtain⟨r8,i5⟩:=r7.belowS (Vs:=p.map ku) b8;have bw:=H r8;have gp:=H (i5 (i4 gl));have gr:L1 (∀d,gF (λa=>D.heap.size<=a) 12 w7 (N1 #[I U J,I U K,I U L,MV M,Z aa al ac,Z B ao bc,Z ca cl cc]) (ku d)->gF (λa=>D.heap.size<=a/\a<w7.heap.size) 12 W8 (N1 #[I U J,I U K,I U L,MV M,Z aa al ac,Z B ao bc,Z ca cl cc]) (ku d)):=λd hv=>gF.keep 12 (gF.m 12 hv (λa h1 h2=>⟨h1,h2⟩)) (λa h1 _=>b8.block a h1.2);have kr:=H ey;have fx:=H eo;have d7:=H c3;have d0:=mC r7.dbk;have mv:(w7.alloc (Pp #[I U J,I U K,I U L,MV M,Z aa al ac,Z B ao bc,Z ca cl cc] 67)).cell? ⟨l,0,N⟩=O ov:=iI (mA _ r7.dbk);have na:=ae r7.dbk;have kk:=H ic;have ko:=H il;obtain⟨oa,oc,bt⟩:=jp bw.o.own;have eu:=bw.o.own;subst bt;have f2:L1 (∀(q:Nat) (a8:GI),[I U J,I U K,I U L,MV M,Z aa al ac,Z B ao bc,Z ca cl cc][q]?=O a8->W8.cell? ((⟨w7.heap.size+1,0,N⟩:L2).add q)=O a8):=by have:=DZ (W:=w7.alloc (Pp #[I U J,I U K,I U L,MV M,Z aa al ac,Z B ao bc,Z ca cl cc] 67)) (a0:=I U J) (a1:=I U K) (a2:=I U L) (a3:=MV M) (a4:=Z aa al ac) (a5:=Z B ao bc) (a6:=Z ca cl cc);rw[aL,c3]at this;exact this
     clear r7 i4 r8 i5 k7 ey eo b8 ic il f3 k gl c3;have m3:=bw.o.few;have hm:=Er J K L M aa al ac B ao bc ca cl cc;have es:=f2.o;rw[<-d7.o]at eu es;go_wp2_with (at_builtin;refine uT _ rfl (.tmp 63) (.tmp 65) 29 rfl (l+1) 67 i0 _ 7 112 dx hk h9 ia e8 rfl cO (Z oa (G e) oc) (G e) (e.flatMap cellsOf) rfl eu ⟨w7.heap.size+1,0,N⟩ 1 1 [I U J,I U K,I U L,MV M,Z aa al ac,Z B ao bc,Z ca cl cc] rfl rfl es ?hone ?h63 ?hby ?hbs ?_)
     case hone=>exact hm
     case h63=>unfold maxLen;omega
     case hby=>omega
     case hbs=>first|omega|(simp;omega)
     intro dk E fb c6 dc;rw[d7.o]at c6;have h5:∀a,dk.ownBlock=O a->(Z oa (G e) oc).ownBlock=O a\/W8.heap.size<=a:=λa hg=>by rw[<-d7.o];simpa[aL]using dc a hg
     have le:G e+1+gP t7<=200001:=by have:=fs.o.2;have:=fx.o.1;omega
     obtain⟨fi,i1⟩:=bw.o.item (Vs:=p.map ku) (x:=N1 #[I U J,I U K,I U L,MV M,Z aa al ac,Z B ao bc,Z ca cl cc]) (fo J K L M aa al ac B ao bc ca cl cc) le fb c6 h5;have em:=(c6.block l (ae bw.dbk) (λi=>by have:=(bw.o.own.lt _ i.s).1;omega)).t bw.dbk;have g4:=jR 0 em;have g5:E.cell? ⟨l,0,N⟩=O (Z oa (G e) oc):=iI em;have kp:=H fi;have kb:L1 (BO (bl g) l (E.setCell ⟨l,0,N⟩ dk) t7 dk (e++[N1 #[I U J,I U K,I U L,MV M,Z aa al ac,Z B ao bc,Z ca cl cc]]) (Z ml (G b+1) mm) (b++[p1])):=by
      unfold Hid BO;rcases kr.o with⟨h,g9⟩|⟨d,fd,h1,h2,h3,h4⟩
      ·subst h;rcases d2.o with⟨_,hn,_⟩|⟨h2,_⟩;·exact hn
       ·rw[h2]at g9;exact cg.2.2.1 g9
      ·subst h2;rcases d2.o with⟨hn,_,_⟩|⟨h2,hq⟩;·rw[hn]at h1;cases h1
       ·rw[h2]at h1;refine⟨p++[d],?_,?_,cg.2.2.2 d fd hq h1⟩
        ·rw[bK];exact i1 (Px:=λa=>D.heap.size<=a/\a<w7.heap.size) (λa hg=>⟨Y,λi=>by have:=kk.o a i;omega,λi=>by have:=ko.o a i;omega⟩) (gr d h3) gp
        ·intro ad hy;rcases bG.1 hy with hy|hy;·exact cv ad hy
         ·rw[cU]at hy;subst hy;exact M5 h1 (by have:=ks.o;omega) h4
     have kf:L1 (mS (w.heap.size+1) g (E.setCell ⟨l,0,N⟩ dk)=gP t7):=by obtain⟨fd,hq⟩:=fi.sn;exact hq.mS
     obtain⟨ne,nf,lw⟩:=jp fb;subst lw;clear fi i1 fb c6 dc h5 em eu es f2 gp gr hm;go_wp2;go_roundw
     case rel=>exact⟨t7,_,e++[N1 #[I U J,I U K,I U L,MV M,Z aa al ac,Z B ao bc,Z ca cl cc]],b++[p1],kp,by unfold Hid;rw[ak,ak,kx.o];rfl,kb⟩
     case measure=>rw[HM.o,kf.o];have:=fx.o;have:=dw.o;simp only[gP]at *;omega
 case rest=>
 obtain⟨bd,ov,e,b,t,u,HE⟩:=hcut;obtain⟨w5,ma⟩:∃w5,w5=wc:=⟨_,rfl⟩;subst ma;have d1:=n5 u.dbk;obtain⟨f,cj⟩:∃f,w5.heap.size=f:=⟨_,rfl⟩;obtain⟨W6,c0⟩:∃W6,w5.alloc (Pp #[Z N 0 0,I U t] 31)=W6:=⟨_,rfl⟩;have dn:L1 (LT f w5 W6):=by rw[<-cj,<-c0];exact(aq _ _).alloc (ag _) _
 have ec:L1 (W6.heap[f]?=O (Pp #[Z N 0 0,I U t] 31 (0,0))):=by rw[<-cj,<-c0];exact bn _ _
 have gv:=H c0;have hc:=ae u.dbk;rw[cj]at hc;obtain⟨F,hN⟩:∃F,G e=F:=⟨_,rfl⟩;have mx:F<=200001:=by have:=u.o.few;omega
 have cn:=u.o.own;obtain⟨oa,oc,bt⟩:=jp u.o.own;rw[hN]at bt;have HN:=H hN;clear c0 a7 dv cn
 go_upto_region 18 with fail
 rw[gv.o];clear gv d1
 go_upto_block 2 with fail
 go_cut []from 13 (λwx=>∃(bv:GI) (j:List GI),L1 (LT f w5 wx)/\L1 (wx.heap[f]?=O (Pp #[bv,I U t] 31 (0,0)))/\L1 (wx.ownsRow (f+1) 67 7 bv (G j) (j.flatMap cellsOf))/\L1 (G j=F)/\L1 (∀(q:Nat) (d ad:GI),e[q]?=O d->j[q]?=O ad->BH d ad))
 case first=>
  go_wp2_with fail;go_loopw [11] (λiv wr=>∃(x:Nat) (bv:GI) (j:List GI),x<=F/\iv=I U x/\L1 (LT f w5 wr)/\L1 (wr.heap[f]?=O (Pp #[bv,I U t] 31 (0,0)))/\L1 (wr.ownsRow (f+1) 67 7 bv (G j) (j.flatMap cellsOf))/\L1 (G j=x)/\L1 (∀(q:Nat) (d ad:GI),e[q]?=O d->j[q]?=O ad->BH d ad)) (λiv _=>F-(intOf iv).toNat)
  case atStart=>exact⟨0,_,[],aH _,rfl,dn,ec,aX _ _ _ _,rfl,(λq d ad _ hy=>by simp at hy)⟩
  clear dn ec
  case round=>
   obtain⟨x,bv,j,hi,rfl,HB,HX,HO,HL,HC⟩:=hrel;have en:=(HB.block l hc).t u.dbk;have d0:=mC en;rcases aV hi with hi|hi
   ·subst hi;have m2:¬(x:Int)<(x:Int):=Y;subst bt;clear en;go_wp2
    go_meet
    case rel=>exact⟨bv,j,HB,HX,HO,HL,HC⟩
   ·obtain⟨d,m⟩:∃d,e[x]?=O d:=⟨_,af qq⟩;obtain⟨n,y,z,k3,S,V,T,W,kl,X,P,R,Q,a9⟩:=u.o.frm d (cI m);have g7:∀d∈e,(cellsOf d).length=7:=λd m=>by obtain⟨_,_,_,_,_,_,_,_,_,_,_,_,_,rfl⟩:=u.o.frm d m;rfl
    obtain⟨a,c,c7,ls,la,ln,bi⟩:=Dp u.o.own g7 cO m;have bz:a<f:=by rw[<-cj];exact aC w5 _ (bi 0 _ (by rw[a9];rfl))
    rw[HN.o]at c7;rw[c7]at bt;injection bt with ho1 _ ho2;subst ho1;subst ho2;rw[c7]at d0;have br:∀{ch:L2} {a8:GI},ch.block<f->w5.cell? ch=O a8->wr.cell? ch=O a8:=λ{ch a8} hb h=>by rw[HB.o.cell hb];exact h
    have e0:wr.cell? ⟨a,x*7,N⟩=O (I U n):=br bz (bi 0 _ (by rw[a9];rfl));have e1:=br bz (bi 1 _ (by rw[a9];rfl));have e2:=br bz (bi 2 _ (by rw[a9];rfl));have e3:=br bz (bi 3 _ (by rw[a9];rfl));have e4:=br bz (bi 4 _ (by rw[a9];rfl));have e5:=br bz (bi 5 _ (by rw[a9];rfl));have e6:=br bz (bi 6 _ (by rw[a9];rfl));have m5:(x:Int)<(F:Int):=Y;have k6:=H a9;have k8:=H m;clear br bi g7 ln ls la en m a9 c7;obtain⟨E,dc⟩:∃E,E=wr:=⟨_,rfl⟩;subst dc
    go_upto_if 85 with fail
    go_cut []from 71 to 92 (λwx=>∃A:ByteArray,L1 (A=if n=8 then{data:=#[]} else k3)/\wx=E.alloc (Pp #[I U n,I U y,I U z,MV A,Z S V T,Z W kl X,Z P R Q] 67))
    case first=>
     by_cases h8:n=8
     ·have m8:(n==8)=PV:=eB;have ds:L1 (({data:=#[]}:ByteArray)=if n=8 then{data:=#[]} else k3):=by unfold Hid;rw[ai h8]
      clear h8 e0 e1 e2 e3 e4 e5 e6 d0;go_wp2
      go_meet
      case rel=>exact⟨_,ds,rfl⟩
     ·have m8:(n==8)=P2:=eB;have ds:L1 (k3=if n=8 then{data:=#[]} else k3):=by unfold Hid;rw[ah h8]
      clear h8 e0 e1 e2 e3 e4 e5 e6 d0;go_wp2
      go_meet
      case rel=>exact⟨_,ds,rfl⟩
    case rest=>
    obtain⟨A,kv,b5⟩:=hcut;have b5:=b5.s;subst b5;have b1:LT E.heap.size E (E.alloc (Pp #[I U n,I U y,I U z,MV A,Z S V T,Z W kl X,Z P R Q] 67)):=(aq _ _).alloc (ag _) _;have b2:LT E.heap.size E ((E.alloc (Pp #[I U n,I U y,I U z,MV A,Z S V T,Z W kl X,Z P R Q] 67)).alloc (Pp #[I U n,I U y,I U z,MV A,Z S V T,Z W kl X,Z P R Q] 67)):=b1.alloc eA _;have f0:(E.alloc (Pp #[I U n,I U y,I U z,MV A,Z S V T,Z W kl X,Z P R Q] 67)).cell? ⟨f,0,N⟩=O bv:=iI (mA _ HX);have cn:=wV HO b2;have km:=H cn;have cd:=H b2;have eq:=DZ (W:=E.alloc (Pp #[I U n,I U y,I U z,MV A,Z S V T,Z W kl X,Z P R Q] 67)) (a0:=I U n) (a1:=I U y) (a2:=I U z) (a3:=MV A) (a4:=Z S V T) (a5:=Z W kl X) (a6:=Z P R Q);rw[aL]at eq;have bs:=Er n y z A S V T W kl X P R Q;have nb:=ae HX;obtain⟨va,vc,el⟩:=jp HO;subst el;have m4:G j<=200001:=by rw[HL.o];omega
    clear b1 b2 e0 e1 e2 e3 e4 e5 e6 d0;go_wp2_with (at_builtin;refine uT _ rfl (.tmp 88) (.tmp 90) 29 rfl (f+1) 67 i0 _ 7 112 dx hk h9 ia e8 rfl cO (Z va (G j) vc) (G j) (j.flatMap cellsOf) rfl cn ⟨E.heap.size+1,0,N⟩ 1 1 [I U n,I U y,I U z,MV A,Z S V T,Z W kl X,Z P R Q] rfl rfl eq ?hone ?h63 ?hby ?hbs ?_)
    case hone=>first|exact bs|exact⟨rfl,rfl,rfl,rfl,rfl,rfl,rfl⟩
    case h63=>unfold maxLen;omega
    case hby=>omega
    case hbs=>first|omega|(simp;omega)
    intro bx cb dl b9 l4;have ha:=λa hg=>(HO.lt a hg).1;have ep:∀a,a<=f->cb.heap[a]?=E.heap[a]?:=λa hg=>(b9.block a eB (λi=>by have:=ha a i.s;omega)).t (cd.block a Y);have c4:=(ep f (ag _)).t HX;have g4:=jR 0 c4;have g5:cb.cell? ⟨f,0,N⟩=O (Z va (G j) vc):=iI c4;have i6:L1 (LT f w5 (cb.setCell ⟨f,0,N⟩ bx)):=⟨b9.os.t (cd.o.os.t HB.o.os),b9.tape.t (cd.tape.t HB.tape),b9.output.t (cd.o.output.t HB.o.output),by have h1:=b9.size;have h2:=cd.o.size;have h3:=HB.o.size;show _<=(cb.setCell ⟨f,0,N⟩ bx).heap.size;simp only[aL,World.setCell]at *;simp;omega,λa hg=>by rw[kW _ (show a≠f by omega),ep a Y];exact HB.block a hg⟩;have ky:L1 ((cb.setCell ⟨f,0,N⟩ bx).heap[f]?=O (Pp #[bx,I U t] 31 (0,0))):=by unfold Hid;rw[lV _ c4];rfl
    have ki:L1 ((cb.setCell ⟨f,0,N⟩ bx).ownsRow (f+1) 67 7 bx (j++[N1 #[I U n,I U y,I U z,MV A,Z S V T,Z W kl X,Z P R Q]]).length ((j++[N1 #[I U n,I U y,I U z,MV A,Z S V T,Z W kl X,Z P R Q]]).flatMap cellsOf)):=by unfold Hid;rw[ak,dE];have:=aR (a:=⟨f,0,N⟩) dl (λi=>absurd (dl.lt f i).1 Y) bx;rw[show([N1 #[I U n,I U y,I U z,MV A,Z S V T,Z W kl X,Z P R Q]].flatMap cellsOf)=[I U n,I U y,I U z,MV A,Z S V T,Z W kl X,Z P R Q]from rfl];exact this
    have ji:L1 (∀(q:Nat) (d ad:GI),e[q]?=O d->(j++[N1 #[I U n,I U y,I U z,MV A,Z S V T,Z W kl X,Z P R Q]])[q]?=O ad->BH d ad):=λq x2 y2 e7 bo=>by
     rcases bU q (G j) with c|c
     ·rw[aP c]at bo;exact HC q x2 y2 e7 bo
     ·rw[aF c]at bo;match hj:q-G j,bo with
      |0,bo=>
       have:q=x:=by have:=HL.o;omega
       subst this;rw[k8.o]at e7;cases e7;simp at bo;subst bo;exact⟨n,y,z,k3,S,V,T,W,kl,X,P,R,Q,k6,by rw[kv.o]⟩
      |j2+1,bo=>simp at bo
    obtain⟨nk,nm,k9⟩:=jp dl;subst k9;clear dl b9 l4 ep c4 cn eq bs ha km;go_wp2;go_roundw
    case rel=>exact⟨x+1,_,j++[N1 #[I U n,I U y,I U z,MV A,Z S V T,Z W kl X,Z P R Q]],Y,rfl,i6,ky,ki,by unfold Hid;rw[ak,HL.o];rfl,ji⟩
    case measure=>simp[intOf];omega
 case rest=>
 obtain⟨bv,j,HB,HX,HO,HL,HC⟩:=hcut;obtain⟨D,da⟩:∃D,D=wc:=⟨_,rfl⟩;subst da;have ek:LT w5.heap.size w5 D:=by rw[cj];exact HB
 have dr:L1 ((bd=N/\nw (bl g))\/∃p:List (VT 12×List Nat),bd=O []/\TV (l+1) 12 D ov u6 e (p.map ku)/\(∀d∈p,qb d)/\gT (bl g)=O (p,t)):=by
  rcases HE.o with h|⟨p,h1,h2,h3,h4⟩;·exact P3 h
  ·exact P4 ⟨p,h1,(u.belowS ek).2 h2,h3,h4⟩
 have k:=H (u.belowS (Vs:=[]) ek).1;obtain⟨p6,h6⟩:=k.o.sn;have c2:=h6.c2;have d0:=mC k.dbk;have d1:=n5 k.dbk;have b0:=mC HX;have b1:=n5 HX;have r0:=mC k.rb;have r1:=n5 k.rb;have f0:=jR 0 k.rb;have f1:=jR 1 k.rb;clear ek HE u h6 dn ec;rcases dr.o with⟨ht,lv⟩|⟨p,ht,bm,b4,hf⟩
 ·subst ht;simp only[Option.isNone_none]at c2;subst bt;have o7:gB w.heap.size D ((D.setCell ⟨w.heap.size,0,N⟩ (Z oa F oc)).setCell ⟨w.heap.size,1,N⟩ (I U t)).drew:=(((gB.refl _ _).setCell 0 _).setCell 1 _).t (gB.drew _);have x7:((D.setCell ⟨w.heap.size,0,N⟩ (Z oa F oc)).setCell ⟨w.heap.size,1,N⟩ (I U t)).drew.heap[w.heap.size]?=O (Pp #[Z oa F oc,I U t] 31 (0,0)):=pj k.rb _ _;have kz:=H x7;have cf:=H o7;clear x7 o7;go_wp2_with fail;go_region;generalize ((D.setCell ⟨w.heap.size,0,N⟩ (Z oa F oc)).setCell ⟨w.heap.size,1,N⟩ (I U t)).drew=W7 at *;go_wp2;refine av (v:=OW #[N1 #[Z oa F oc,I U t],OV P2]) ?_ rfl ?_;·exact qD results83 _ _ w.heap.size _ rfl (run_loadVar_row _ w.heap.size 31 31 _ _ _ kz cM rfl aG)
  ·have hb:=k.o.below;exact⟨⟨cf.o.os.t hb.os,cf.tape.t hb.tape,cf.o.output.t hb.output,aA hb.size cf.size,λa hg=>(cf.block a (by have:=hb.size;omega) Y).t (hb.block a hg)⟩,_,P2,rfl,P3 ⟨rfl,lv,_,_,_,_,rfl⟩⟩
 ·subst ht;simp only[Option.isNone_some]at c2;have h0:kG (λa=>l+1<=a) 12 0 (p.map Prod.fst) D bv:=by
   refine⟨j,zP HO (aH _),?_,λx ad mr hy hX=>?_⟩;·rw[aw,HL.o,<-HN.o,bm.1,aw]
   ·rw[aY]at hX;cases cp:p[x]? with
    |none=>rw[cp]at hX;cases hX
    |some b6=>
     rw[cp]at hX;cases hX;have lr:x<G e:=by have:=(cH.1 cp).1;have h2:=bm.1;rw[aw]at h2;omega
     have h7:=af lr;have hv:=bm.2 x e[x] (ku b6) h7 (by rw[aY,cp];rfl);exact gF.m 12 ((HC x e[x] ad h7 hy).vin hv (b4 b6 (cI cp))) (λa h1 h2=>h1.1)
  have fv:L1 (∀bq:Gr,LT D.heap.size D bq->K8 Qe 41 #[N1 #[bv,I U t]] bq λi s=>i=Ps (OV (jb (p.map Prod.fst) t))/\LT bq.heap.size bq s):=λbq hb=>
   NE (h0.keep hb) (λad hy=>by obtain⟨d,m,rfl⟩:=cT.1 hy;exact(b4 d m).1) (by rw[aw];have h1:=bm.1;rw[aw]at h1;have h2:=k.o.few;simp only[gP,aI]at h2;omega)
  have cx:=H bm;have cv:=H b4;have j1:=H hf;obtain⟨va,vc,el⟩:=jp HO;subst el;subst bt;clear h0 bm b4 hf;obtain⟨ID,ee⟩:∃ID,jb (p.map Prod.fst) t=ID:=⟨_,rfl⟩;rw[ee]at fv;have kd:=H ee;clear ee;have l3:=ae k.rb;have l2:=ae k.dbk;go_wp2_with fail;go_region_with (go_at_call 41;apply(fv _ (by first|exact(aq _ _).drew|exact aq _ _)).m;rintro i w8 ⟨rfl,c5⟩;have x8:=(c5.block _ l3).t k.rb;have s0:w8.cell? ⟨w.heap.size,0,N⟩=O (Z N 0 0):=(iI x8);have s1:w8.cell? ⟨w.heap.size,1,N⟩=O (I U 0):=(iI x8);have z0:w8.frozen? ⟨w.heap.size,0,N⟩=P2:=nG x8;have z1:w8.frozen? ⟨w.heap.size,1,N⟩=P2:=nG x8;have x9:=(c5.block _ l2).t k.dbk;have s2:w8.cell? ⟨l,0,N⟩=O (Z oa F oc):=(iI x9);have s3:w8.cell? ⟨l,1,N⟩=O (I U t):=(iI x9);clear x9);all_goals (
   have fu:=H (k.fin (W:=(w8.setCell ⟨w.heap.size,0,N⟩ (Z oa F oc)).setCell ⟨w.heap.size,1,N⟩ (I U t)) ((aq D.heap.size D).drew.t c5) rfl cx cv j1 kd);clear s0 s1 s2 s3 z0 z1 x8 c5;generalize (w8.setCell ⟨w.heap.size,0,N⟩ (Z oa F oc)).setCell ⟨w.heap.size,1,N⟩ (I U t)=W9 at *;go_wp2;refine av (v:=OW #[N1 #[Z oa F oc,I U t],OV ID]) ?_ rfl ?_;·exact qD results83 _ _ w.heap.size _ rfl (run_loadVar_row _ w.heap.size 31 31 _ _ _ fu.1 cM rfl aG)
   ·exact fu.2)
end
