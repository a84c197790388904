import Derived.Test.YtgkljcmjnphpeaaGreatDoorK14
set_option linter.defProp false
set_option linter.unusedVariables false
set_option linter.unusedSimpArgs false
set_option maxHeartbeats 8000000
set_option maxRecDepth 100000
open List renaming length->G
open Go renaming Value->GI,World->Gr,Calls->K8,Addr->L2,Ending->MB
open Go.Value renaming int->I,pointer->M2,string->MV,agg->N1,bool->OV,slice->Z
open Go.RowKit renaming Hid->L1,Below->LT
open Option renaming none->N,some->O
open Bool renaming false->P2,true->PV
open Or renaming inl->P3,inr->P4
open Go.Obj renaming cells->Pp
open Go.Ending renaming returned->Ps
open Go.Proofs.Tryz renaming prog->Qe
open Go.IntKind renaming i64->U
open Go.Proofs.Tryz
namespace Go.Proofs.YtgkljcmjnphpeaaGreatDoor
open Go.RowKit
section
variable{C:Nat}{P:Nat->Prop}{S:ByteArray}{w w':Gr}{p:Nat}{s t:Option (List Nat)}
def tQ(a:Option ((VT 12×List Nat)×List Nat)):Prop:=a=N\/∃b c,a=O (b,c)/\4<(gk.filters (α:=VT 11) b.1).length
def BU(C:Nat)(S:ByteArray)(P:Nat->Prop)(c:Option ((VT 12×List Nat)×List Nat))(w:Gr)(f:MB)(w':Gr):Prop:=∃(b:GI) (t:Option (List Nat)),f=Ps b/\mi b/\jP C S w w' t/\((t=N/\tQ c)\/∃(a:VT 12×List Nat) (e:List Nat),c=O (a,e)/\t=O e/\gF (λd=>P d\/w.heap.size<=d) 12 w' b (sT (k:=11) a.1 a.2)/\∀g∈a.2,g<256)
def uh(w:Gr)(P:Nat->Prop)(a:Nat):Prop:=(P a/\a<w.heap.size)\/w.heap.size+2<=a
def uh.ne{a:Nat}(h:uh w P a):a≠w.heap.size/\a≠w.heap.size+1:=by rcases h with h|h<;>omega
structure Sx(w:Gr)(C:Nat)(S:ByteArray)(wx:Gr)(t:Option (List Nat))(A:Array GI):Prop where
 lt:C<w.heap.size
 to_:jP C S w wx t
 b3:wx.heap[w.heap.size]?=O (Pp A 67 (0,0))
 b4:wx.heap[w.heap.size+1]?=O (Pp gG 67 (0,0))
def Sn.onlyS{a b:Gr}{c:Nat}(h:Sn C S a p s)(e:gB c a b)(d:C≠c):Sn C S b p s:=⟨by rw[e.block _ h.lt d];exact h.blk,h.lp,h.ls,h.rest⟩
def Sx.step{b:Gr}{a:Array GI}{t':Option (List Nat)}(h:Sx w C S b t a)(k:jP C S b w' t'):Sx w C S w' t' a:=
 ⟨h.lt,h.to_.t k,by have:=h.lt;rw[k.2.block _ (ae h.b3) Y];exact h.b3,by have:=h.lt;rw[k.2.block _ (ae h.b4) Y];exact h.b4⟩
def Sx.below{a:Gr}{b:Array GI}(h:Sx w C S a t b)(k:LT a.heap.size a w'):Sx w C S w' t b:=by obtain⟨⟨p,c⟩,_⟩:=h.to_;exact h.step ⟨⟨p,c.other k⟩,.of_below k⟩
def Sx.alloc{c:Gr}{a:Array GI}(h:Sx w C S c t a)(b:Obj):Sx w C S (c.alloc b) t a:=h.below ((aq _ _).alloc (ag _) b)
def Sx.only{b:Gr}{c B:Array GI}{g:Nat}(h:Sx w C S b t c)(a:gB g b w')(l:w.heap.size<=g)(h3:w'.heap[w.heap.size]?=O (Pp B 67 (0,0)))(d:g≠w.heap.size+1):Sx w C S w' t B:=by obtain⟨⟨p,i⟩,k⟩:=h.to_;have f:=h.lt;have j:=k.size;exact⟨f,⟨⟨p,i.onlyS a Y⟩,a.os.t k.os,a.tape.t k.tape,a.output.t k.output,aA j a.size,λg h1 h2=>(a.block g Y Y).t (k.block g h1 h2)⟩,h3,by rw[a.block _ (ae h.b4) (λe=>d e.s)];exact h.b4⟩
def Sx.put{c:Gr}{b:Array GI}(h:Sx w C S c t b)(i:Nat)(a:GI):Sx w C S (c.setCell ⟨w.heap.size,i,N⟩ a) t (b.setIfInBounds i a):=
 h.only ((gB.refl _ _).setCell i a) (ag _) (lV _ h.b3) Y
def Sx.set{i:Gr}{m n o q r u v:GI}(h:Sx w C S i t #[m,n,o,q,r,u,v])(a b c d e f g:GI){j:Gr}(l:j=((((((i.setCell ⟨w.heap.size,0,N⟩ a).setCell ⟨w.heap.size,1,N⟩ b).setCell ⟨w.heap.size,2,N⟩ c).setCell ⟨w.heap.size,3,N⟩ d).setCell ⟨w.heap.size,4,N⟩ e).setCell ⟨w.heap.size,5,N⟩ f).setCell ⟨w.heap.size,6,N⟩ g):Sx w C S j t #[a,b,c,d,e,f,g]/\gB w.heap.size i j:=by
 have k:=lX i w.heap.size a b c d e f g;rw[<-l]at k;exact⟨h.only k (ag _) (by rw[l];exact vq h.b3 a b c d e f g) Y,k⟩
def Sx.set2{a:Gr}{B D E F J K L:GI}(h:Sx w C S a t #[B,D,E,F,J,K,L])(e f g i j k l m n o q r u v:GI){c:Gr}(z:c=(((((((((((((((a.alloc (Pp gG 67)).setCell ⟨w.heap.size,0,N⟩ e).setCell ⟨w.heap.size,1,N⟩ f).setCell ⟨w.heap.size,2,N⟩ g).setCell ⟨w.heap.size,3,N⟩ i).setCell ⟨w.heap.size,4,N⟩ j).setCell ⟨w.heap.size,5,N⟩ k).setCell ⟨w.heap.size,6,N⟩ l).setCell ⟨a.heap.size,0,N⟩ m).setCell ⟨a.heap.size,1,N⟩ n).setCell ⟨a.heap.size,2,N⟩ o).setCell ⟨a.heap.size,3,N⟩ q).setCell ⟨a.heap.size,4,N⟩ r).setCell ⟨a.heap.size,5,N⟩ u).setCell ⟨a.heap.size,6,N⟩ v)):Sx w C S c t #[e,f,g,i,j,k,l]/\c.heap[a.heap.size]?=O (Pp #[m,n,o,q,r,u,v] 67 (0,0))/\∀b,b<a.heap.size->b≠w.heap.size->c.heap[b]?=a.heap[b]?:=by
 have R:=ae h.b4;obtain⟨d,A⟩:∃d,d=((((((((a.alloc (Pp gG 67)).setCell ⟨w.heap.size,0,N⟩ e).setCell ⟨w.heap.size,1,N⟩ f).setCell ⟨w.heap.size,2,N⟩ g).setCell ⟨w.heap.size,3,N⟩ i).setCell ⟨w.heap.size,4,N⟩ j).setCell ⟨w.heap.size,5,N⟩ k).setCell ⟨w.heap.size,6,N⟩ l):=⟨_,rfl⟩;obtain⟨s1,y⟩:=(h.alloc (Pp gG 67)).set e f g i j k l A;rw[<-A]at z;have Q:d.heap[a.heap.size]?=O (Pp gG 67 (0,0)):=by rw[y.block _ eA Y];exact bn _ _
 have x:=lX d a.heap.size m n o q r u v;have e2:=pq Q m n o q r u v;rw[<-z]at x e2;have M:=y.size;simp only[aL]at M;refine⟨s1.only x Y (by rw[x.block _ Y Y];exact s1.b3) Y,e2,λb h1 h2=>?_⟩;rw[x.block b Y Y,y.block b eB h2];exact((aq a.heap.size a).alloc (ag _) (Pp gG 67)).block b h1
def gF.kindTo{P:Nat->Prop}{k:Nat}{r g i j a b c:GI}{d:gk (VT k)}(h:gF P (k+1) w (N1 #[r,g,i,j,a,b,c]) d)(f:Nat):gF P (k+1) w (N1 #[I U f,g,i,j,a,b,c]) ({ d with kind:=f }:gk (VT k)):=by obtain⟨v,x,u,q,e,o,m,l,n,hF⟩:=h.parts;simp[nV]at e;obtain⟨rfl,rfl,rfl,rfl,rfl,rfl,rfl⟩:=e;exact⟨a,b,c,q,rfl,o,m,l,n,hF⟩
def gF.textTo{P:Nat->Prop}{k:Nat}{f g i q a b c:GI}{V:gk (VT k)}(h:gF P (k+1) w (N1 #[f,g,i,q,a,b,c]) V)(e:List Nat):gF P (k+1) w (N1 #[f,g,i,MV (ge e),a,b,c]) ({ V with text:=e }:gk (VT k)):=by obtain⟨u,v,r,o,d,n,l,j,m,hF⟩:=h.parts;simp[nV]at d;obtain⟨rfl,rfl,rfl,rfl,rfl,rfl,rfl⟩:=d;exact⟨a,b,c,o,rfl,n,l,j,m,hF⟩
def gF.filtersTo{P:Nat->Prop}{k:Nat}{g i j l c d x:GI}{e:gk (VT k)}(h:gF P (k+1) w (N1 #[g,i,j,l,c,d,x]) e){b:GI}{a:List Nat}(u:jz P w 3 1 b (G a) (a.map λm:Nat=>I U m)):gF P (k+1) w (N1 #[g,i,j,l,c,d,b]) ({ e with filters:=a }:gk (VT k)):=by obtain⟨y,z,b,v,f,r,o,n,q,hF⟩:=h.parts;simp[nV]at f;obtain⟨rfl,rfl,rfl,rfl,rfl,rfl,rfl⟩:=f;exact⟨c,d,_,v,rfl,r,o,n,q,u⟩
structure Sy(w:Gr)(C:Nat)(P:Nat->Prop)(S:ByteArray)(g5 g7:Nat)(D5 D7:Array GI)(F:List (VT 11))(wx:Gr)(t:Option (List Nat))(A:Array GI)(VV:gk (VT 11)):Prop where
 sx:Sx w C S wx t A
 hb:∀g,P g->C≠g
 h5:w.heap.size+2<=g5
 h7:w.heap.size+2<=g7
 d5:wx.heap[g5]?=O (Pp D5 67 (0,0))
 d7:wx.heap[g7]?=O (Pp D7 67 (0,0))
 vin:gF (uh w P) 12 wx (N1 A) VV
 fnd:mU (uh w P) 11 wx (N1 D7) F
section
variable{f j:Nat}{b c:Array GI}{F:List (VT 11)}{a:Gr}{A:Array GI}{d:gk (VT 11)}
def Sy.step{t':Option (List Nat)}(h:Sy w C P S f j b c F a t A d)(k:jP C S a w' t'):Sy w C P S f j b c F w' t' A d:=by have o:=h.sx.lt;have h1:=h.h5;have h2:=h.h7;have h3:=h.hb;have i:∀e,uh w P e->e<a.heap.size->w'.heap[e]?=a.heap[e]?:=λe g m=>k.2.block e m (by rcases g with g|g;exact λl=>h3 e g.1 l.s;omega);exact⟨h.sx.step k,h3,h1,h2,by rw[k.2.block _ (ae h.d5) Y];exact h.d5,by rw[k.2.block _ (ae h.d7) Y];exact h.d7,gF.keep 12 h.vin i,h.fnd.imp λy n=>gF.keep 11 n i⟩
def Sy.put(h:Sy w C P S f j b c F a t A d)(i:Nat)(e:GI){l:gk (VT 11)}(q:gF (uh w P) 12 a (N1 (A.setIfInBounds i e)) l):Sy w C P S f j b c F (a.setCell ⟨w.heap.size,i,N⟩ e) t (A.setIfInBounds i e) l:=by have h1:=h.h5;have h2:=h.h7;have k:gB w.heap.size a (a.setCell ⟨w.heap.size,i,N⟩ e):=(gB.refl _ _).setCell i e;have m:∀g,uh w P g->g<a.heap.size->(a.setCell ⟨w.heap.size,i,N⟩ e).heap[g]?=a.heap[g]?:=λg n o=>k.block g o n.ne.1;exact⟨h.sx.put i e,h.hb,h1,h2,by rw[k.block _ (ae h.d5) Y];exact h.d5,by rw[k.block _ (ae h.d7) Y];exact h.d7,gF.keep 12 q m,h.fnd.imp λu r=>gF.keep 11 r m⟩
def Sy.fin{i l m n o q r:GI}(h:Sy w C P S f j b c F a t #[i,l,m,n,o,q,r] d){W:Gr}(v:W=((((((a.setCell ⟨w.heap.size+1,0,N⟩ i).setCell ⟨w.heap.size+1,1,N⟩ l).setCell ⟨w.heap.size+1,2,N⟩ m).setCell ⟨w.heap.size+1,3,N⟩ n).setCell ⟨w.heap.size+1,4,N⟩ o).setCell ⟨w.heap.size+1,5,N⟩ q).setCell ⟨w.heap.size+1,6,N⟩ r):W.heap[w.heap.size+1]?=O (Pp #[i,l,m,n,o,q,r] 67 (0,0))/\jP C S w W t/\gF (λe=>P e\/w.heap.size<=e) 12 W (N1 #[i,l,m,n,o,q,r]) d:=by
 have g:=lX a (w.heap.size+1) i l m n o q r;have u:=pq h.sx.b4 i l m n o q r;rw[<-v]at g u;obtain⟨⟨p,x⟩,k⟩:=h.sx.to_;have z:=h.sx.lt;have y:=k.size;exact⟨u,⟨⟨p,x.onlyS g Y⟩,g.os.t k.os,g.tape.t k.tape,g.output.t k.output,aA y g.size,λe h1 h2=>(g.block e Y Y).t (k.block e h1 h2)⟩,gF.m 12 (gF.keep 12 h.vin (λe h1 h2=>g.block e h2 h1.ne.2)) (λe h1 _=>by rcases h1 with h1|h1;exact P3 h1.1;exact P4 Y)⟩
end
def Kb(a:Int):pu a N=N:=rfl
def se{a:gk (VT 11)}{r:List Nat}{m q:Nat}{v e:Int}{x:Bool}{t1 k:Option (List Nat)}{y:List Nat}(z:m=(gV kL a.keys a.items).length)(A:∀b,gV kL a.keys a.items=[b]->v=kO b/\e=pC b)(K:1<q->ii a=N)(n:(!decide (m=1/\q<=1/\v=2/\0<=e))=x)(d:(if x=PV then N else O r)=t1)
  (B:(k=N/\(t1=N\/ii a=N\/∃u,ii a=O u/\4<G u))\/(k=t1/\(t1=N\/ii a=O y))):(pu e k=N->tQ (ju a r))/\(∀i l,pu e k=O (i,l)->0<=e/\ju a r=O ((⟨8,0,0,[],(kH a).items,(kH a).keys,y⟩,i),l)):=by
 have E:∀f,ii a=O f->jg a=O ⟨8,0,0,[],(kH a).items,(kH a).keys,f⟩:=λf j=>by unfold jg;rw[j,(pX a).1,(pX a).2.1];rfl
 have D:ii a=N->jg a=N:=λj=>by unfold jg;rw[j];rfl
 have M:∀f:List (VT 11),G f=1->∃b,f=[b]:=λf j=>by
  match f,j with
  | [b],_=>exact⟨b,rfl⟩
 by_cases g:m=1/\q<=1/\v=2/\0<=e
 ·rw[aB g]at n;subst n;have d:t1=O r:=d.s;obtain⟨b,c⟩:=M _ (z.s.t g.1);obtain⟨e0,e1⟩:=A b c;have o:=si a r b c (by have:=g.2.2.1;omega) (by have:=g.2.2.2;omega);rw[<-e1]at o;rcases B with⟨h2,h3⟩|⟨h2,h3⟩
  ·rw[h2,Kb];refine⟨λ_=>?_,λi l h=>by cases h⟩;rcases h3 with h3|h3|⟨u,h3,J⟩;·rw[d]at h3;cases h3
   ·left;rw[o,D h3];cases pu e (O r)<;>rfl
   ·rw[o,E _ h3];cases pu e (O r)with
    |none=>exact P3 rfl
    |some Q=>exact P4 ⟨_,_,rfl,J⟩
  ·rw[h2,d];have h3:=h3.resolve_left (by rw[d];simp);rw[o,E _ h3];refine⟨λh=>?_,λi l h=>?_⟩;·left;rw[h];rfl
   ·rw[h];exact⟨g.2.2.2,rfl⟩
 ·rw[ar g]at n;subst n;have d:t1=N:=d.s;have h2:k=N:=by rcases B with h|h;exact h.1;exact h.1.t d
  rw[h2,Kb];refine⟨λ_=>P3 ?_,λi l h=>by cases h⟩;by_cases c:∃b,gV kL a.keys a.items=[b]/\kO b=2/\0<=pC b
  ·obtain⟨b,c,h2,F⟩:=c;obtain⟨e0,e1⟩:=A b c;have h1:m=1:=by rw[z,c];rfl
   have L:=K (Nat.lt_of_not_le λh=>g ⟨h1,h,Y,Y⟩);rw[si a r b c h2 F,D L];cases pu (pC b) (O r)<;>rfl
  ·exact GS a r (λb h1 h2 h3=>c ⟨b,h1,h2,h3⟩)
def nD{a:Gr}{b:Nat}{c d e f g i j:GI}(h:a.heap[b]?=O (Pp #[c,d,e,f,g,i,j] 67 (0,0))):(a.cell? ⟨b,0,N⟩=O c/\a.cell? ⟨b,1,N⟩=O d/\a.cell? ⟨b,2,N⟩=O e/\a.cell? ⟨b,3,N⟩=O f/\a.cell? ⟨b,4,N⟩=O g/\a.cell? ⟨b,5,N⟩=O i/\a.cell? ⟨b,6,N⟩=O j) /\
  a.frozen? ⟨b,0,N⟩=P2/\a.frozen? ⟨b,1,N⟩=P2/\a.frozen? ⟨b,2,N⟩=P2/\a.frozen? ⟨b,3,N⟩=P2/\a.frozen? ⟨b,4,N⟩=P2/\a.frozen? ⟨b,5,N⟩=P2/\a.frozen? ⟨b,6,N⟩=P2:=
 ⟨⟨iI h,iI h,iI h,iI h,iI h,iI h,iI h⟩,nG h,nG h,nG h,nG h,nG h,nG h,nG h⟩
def MR{bq:GI}{a:gk (VT 11)}{r:List Nat}(h:Sn C S w p (O r))(hv:gF P 12 w bq a)(hb:∀e,P e->C≠e)(hM:mL 200000 (k:=12) a)(c7:a.kind=7):K8 Qe 175 #[M2 (O ⟨C,0,N⟩),bq] w (BU C S P (ju a r) w):=by
 have fw:=h.lt;obtain⟨n0,n1,n2,bt,ja,jl,jc,ka,kl,kc,fa,fl,fc,rfl⟩:=hv.form;obtain⟨W0,bw⟩:∃W0,(w.alloc (Pp #[I U n0,I U n1,I U n2,MV bt,Z ja jl jc,Z ka kl kc,Z fa fl fc] 67)).alloc (Pp gG 67)=W0:=⟨_,rfl⟩;have b0:LT w.heap.size w W0:=by rw[<-bw];exact((aq _ _).alloc (ag _) _).alloc eA _
 have g9:W0.heap.size=w.heap.size+2:=by rw[<-bw];simp
 have a9:L1 (Sx w C S W0 (O r) #[I U n0,I U n1,I U n2,MV bt,Z ja jl jc,Z ka kl kc,Z fa fl fc]):=by
  refine⟨fw,⟨⟨p,h.other b0⟩,.of_below b0⟩,?_,?_⟩;·rw[<-bw];exact mA _ (bn _ _)
  ·rw[<-bw];have:=bn (w.alloc (Pp #[I U n0,I U n1,I U n2,MV bt,Z ja jl jc,Z ka kl kc,Z fa fl fc] 67)) (Pp gG 67);rw[aL]at this;exact this
 have ep:gF (λe=>P e/\e<w.heap.size) 12 W0 (N1 #[I U n0,I U n1,I U n2,MV bt,Z ja jl jc,Z ka kl kc,Z fa fl fc]) a:=gF.keep 12 (gF.m 12 hv (λe h1 h2=>⟨h1,h2⟩)) (λe h1 _=>b0.block e h1.2);have H1:L1 (K8 Qe 172 #[N1 #[I U n0,I U n1,I U n2,MV bt,Z ja jl jc,Z ka kl kc,Z fa fl fc],MV {data:=#[76,101,110,103,116,104]}] W0 _):=rV kL ep (Nat.le_of_eq (hM.2.2.1 c7)) (aA hM.2.1 Y);have d4:L1 ((w.alloc (Pp #[I U n0,I U n1,I U n2,MV bt,Z ja jl jc,Z ka kl kc,Z fa fl fc] 67)).alloc (Pp #[I U 0,I U 0,I U 0,MV {data:=#[]},Z N 0 0,Z N 0 0,Z N 0 0] 67)=W0):=bw;have HM:=H (And.intro hM c7);clear h hv ep b0 bw hM c7
 go_in
 go_upto_region 1 with fail
 rw[d4.o];go_cut [5,6]from 10 (λu5 u6 u=>∃(E c1:Nat) (A1 D1:Array GI),u5=M2 (O ⟨E,0,N⟩)/\u6=I U (c1:Nat)/\w.heap.size+2<=E/\mi (N1 A1)/\mi (N1 D1)/\L1 (Sx w C S u (O r) A1)/\L1 (u.heap[E]?=O (Pp D1 67 (0,0)))/\L1 (gF (uh w P) 12 u (N1 A1) (kR kL a))/\L1 (c1=(gV kL a.keys a.items).length)/\L1 (mU (uh w P) 11 u (N1 D1) (gV kL a.keys a.items)))
 case first=>
  have c0:=iI (i:=0) a9.b3;have c1:=iI (i:=1) a9.b3;have D:=iI (i:=2) a9.b3;have c3:=iI (i:=3) a9.b3;have c4:=iI (i:=4) a9.b3;have c5:=iI (i:=5) a9.b3;have c6:=iI (i:=6) a9.b3;go_wp2_with fail;go_call H1.o as a7 w1 ⟨v1,g1,rfl,m,c8,cx⟩;obtain⟨a0,a1,a2,a3,aa,al,ac,ba,cu,bc,ca,cl,cc,rfl⟩:=gF.form c8;obtain⟨q,f,k2,k3,R,V,T,W,el,X,ga,gl,gc,rfl⟩:=cx.form;have bf:=H (a9.below m);have fx:¬w1.heap.size=w.heap.size:=by have:=ae bf.b3;omega
  obtain⟨⟨s0,s1,s2,s3,s4,s5,s6⟩,z0,z1,z2,z3,z4,z5,z6⟩:=nD (bf.alloc (Pp #[I U 0,I U 0,I U 0,MV {data:=#[]},Z N 0 0,Z N 0 0,Z N 0 0] 67)).b3;clear c0 c1 D c3 c4 c5 c6;go_wp2
  go_meet
  case rel=>have hx:=bf.o.set2 (I U a0) (I U a1) (I U a2) (MV a3) (Z aa al ac) (Z ba cu bc) (Z ca cl cc) (I U q) (I U f) (I U k2) (MV k3) (Z R V T) (Z W el X) (Z ga gl gc) rfl;have f7:=m.size;have b9:∀{k:Nat} {ad:GI} {c:VT k},gF (λe=>(P e/\e<w.heap.size)\/W0.heap.size<=e) k w1 ad c->gF (uh w P) k _ ad c:=λ{k ad c} hh=>gF.m k (gF.keep k hh (λe h1 h2=>hx.2.2 e h2 (by rcases h1 with h1|h1<;>omega))) (λe h1 _=>(by rcases h1 with h1|h1;exact P3 h1;exact P4 Y));refine⟨w1.heap.size,_,_,_,rfl,rfl,Y,gF.form c8,cx.form,hx.1,hx.2.1,b9 c8,rfl,?_⟩;exact cx.imp (λc F=>b9 (gF.m 11 F (λe h1 _=>P3 h1)))
 case rest=>
 obtain⟨E,c1,A1,D1,rfl,rfl,hg5,⟨a0,a1,a2,a3,aa,al,ac,ba,cu,bc,ca,cl,cc,hA⟩,⟨q,f,k2,k3,R,V,T,W,el,X,ga,gl,gc,hD⟩,bf,ci,d2,ex,dr⟩:=hcut;injection hA with hA;injection hD with hD;subst hA;subst hD;obtain⟨w1,gd⟩:∃w1,w1=wc:=⟨_,rfl⟩;subst gd;have e6:L1 (∀c,gV kL a.keys a.items=[c]->q=kO c/\f=pC c):=λc F=>dr.o.one F;have H2:L1 (K8 Qe 172 #[N1 #[I U a0,I U a1,I U a2,MV a3,Z aa al ac,Z ba cu bc,Z ca cl cc],MV {data:=#[70,105,108,116,101,114]}] w1 _):=rV kF d2 (by simp[kR]) (by have h1:=HM.o.1.2.1;have h2:(gW kL (a.keys.zip a.items)).length<=(a.keys.zip a.items).length:=List.length_filter_le _ _;rw[fp]at h2;have h3:(gk.keys (α:=VT 11) a).length<=200000:=h1;simp only[kR,aw];omega)
 rw[rK]at H2;clear dr H1 a9 d4
 go_upto_region 2 with fail
 go_cut [7,8]from 10 (λu7 u8 u=>∃(K D:Nat) (A2 D2:Array GI),u7=M2 (O ⟨K,0,N⟩)/\u8=I U (D:Nat)/\w.heap.size+2<=K/\mi (N1 A2)/\mi (N1 D2)/\L1 (Sx w C S u (O r) A2)/\L1 (u.heap[E]?=O (Pp #[I U q,I U f,I U k2,MV k3,Z R V T,Z W el X,Z ga gl gc] 67 (0,0)))/\L1 (u.heap[K]?=O (Pp D2 67 (0,0)))/\L1 (gF (uh w P) 12 u (N1 A2) (kH a))/\L1 (D=(gV kF a.keys a.items).length)/\L1 (mU (uh w P) 11 u (N1 D2) (gV kF a.keys a.items)))
 case first=>
  obtain⟨⟨r0,r1,r2,r3,r4,r5,r6⟩,f0,f1,f2,f3,f4,f5,f6⟩:=nD bf.b3;clear f0 f1 f2 f3 f4 f5 f6;go_wp2_with fail;go_call H2.o as a7 w2 ⟨v2,g2,rfl,n,c9,cy⟩;obtain⟨b0,m,e9,Q,j,y,x,z,B,A,la,ll,lc,rfl⟩:=gF.form c9;obtain⟨l0,l1,l2,l3,ma,ml,mc,oa,ol,oc,pa,pl,pc,rfl⟩:=cy.form;have bi:=H (bf.below n);have fx:¬w2.heap.size=w.heap.size:=by have:=ae bi.b3;omega
  obtain⟨⟨s0,s1,s2,s3,s4,s5,s6⟩,z0,z1,z2,z3,z4,z5,z6⟩:=nD (bi.alloc (Pp #[I U 0,I U 0,I U 0,MV {data:=#[]},Z N 0 0,Z N 0 0,Z N 0 0] 67)).b3;clear r0 r1 r2 r3 r4 r5 r6;go_wp2
  go_meet
  case rel=>
   have hx:=bi.o.set2 (I U b0) (I U m) (I U e9) (MV Q) (Z j y x) (Z z B A) (Z la ll lc) (I U l0) (I U l1) (I U l2) (MV l3) (Z ma ml mc) (Z oa ol oc) (Z pa pl pc) rfl;have f7:=n.size;have h5:=ae ci;have h4:=ae bf.b4;have b9:∀{k:Nat} {ad:GI} {c:VT k},gF (λe=>uh w P e\/w1.heap.size<=e) k w2 ad c->gF (uh w P) k _ ad c:=λ{k ad c} hh=>gF.m k (gF.keep k hh (λe h1 h2=>hx.2.2 e h2 (by rcases h1 with h1|h1;exact h1.ne.1;omega))) (λe h1 _=>(by rcases h1 with h1|h1;exact h1;exact P4 Y));refine⟨w2.heap.size,_,_,_,rfl,rfl,Y,gF.form c9,cy.form,hx.1,?_,hx.2.1,b9 c9,rfl,?_⟩;·exact(hx.2.2 E Y Y).t ((n.block _ h5).t ci)
   ·exact cy.imp (λc F=>b9 (gF.m 11 F (λe h1 _=>P3 h1)))
 case rest=>
 obtain⟨K,D,A2,D2,rfl,rfl,fr,⟨b0,m,n,Q,j,y,x,z,B,A,la,ll,lc,hA⟩,⟨l0,l1,l2,l3,ma,ml,mc,oa,ol,oc,pa,pl,pc,hD⟩,bi,dn,dp,d3,ch,ds⟩:=hcut;injection hA with hA;injection hD with hD;subst hA;subst hD;obtain⟨w2,gf⟩:∃w2,w2=wc:=⟨_,rfl⟩;subst gf;have ct:L1 (Sy w C P S E K #[I U q,I U f,I U k2,MV k3,Z R V T,Z W el X,Z ga gl gc] #[I U l0,I U l1,I U l2,MV l3,Z ma ml mc,Z oa ol oc,Z pa pl pc] (gV kF a.keys a.items) w2 (O r) #[I U b0,I U m,I U n,MV Q,Z j y x,Z z B A,Z la ll lc] (kH a)):=⟨bi,hb,hg5,fr,dn,dp,d3,ds⟩;have bm:L1 (Sy w C P S E K #[I U q,I U f,I U k2,MV k3,Z R V T,Z W el X,Z ga gl gc] #[I U l0,I U l1,I U l2,MV l3,Z ma ml mc,Z oa ol oc,Z pa pl pc] (gV kF a.keys a.items) (w2.setCell ⟨w.heap.size,0,N⟩ (I U 8)) (O r) #[I U 8,I U m,I U n,MV Q,Z j y x,Z z B A,Z la ll lc] { kH a with kind:=8 }):=ct.o.put 0 (I U 8) (gF.kindTo ct.vin 8);have y0:=(nD bi.b3).1.1;have y1:=(nD bi.b3).2.1;have e7:L1 (∀c∈gV kF a.keys a.items,(kq c).length<=200000):=λc F=>by
  have h1:mL 200000 c:=HM.o.1.2.2.2.2.2 c (qN F);unfold kq;split
  ·show((gk.items (α:=VT 10) c).map kt).length<=_;rw[aw];exact h1.1
  ·simp
 have cj:=H (qV a);generalize gV kF a.keys a.items=PF at *;obtain⟨W3,cw⟩:∃W3,w2.setCell ⟨w.heap.size,0,N⟩ (I U 8)=W3:=⟨_,rfl⟩;have d6:=H cw;rw[cw]at bm;clear ci d2 bf H2 bi dn dp d3 ds ct cw
 go_upto_region 4 with fail
 rw[d6.o];clear y0 y1 d6;have y0:=(nD bm.d5).1.1;have y1:=(nD bm.d5).1.2.1;obtain⟨ao,hG⟩:∃ao,(!decide (c1=1/\D<=1/\q=2/\0<=f))=ao:=⟨_,rfl⟩;go_cut [38]from 10 (λbv u=>bv=OV ao/\u=W3)
 case first=>
  by_cases q0:c1=1
  ·have m0:((c1:Int) != 1)=P2:=eB;by_cases q1:D<=1
   ·have m1:decide (1<(D:Int))=P2:=eB;by_cases q2:q=2
    ·have m2:(q != 2)=P2:=eB;by_cases q3:0<=f
     ·have m3:decide (f<0)=P2:=eB;have HD:L1 (ao=P2):=by rw[<-hG,aB ⟨q0,q1,q2,q3⟩];rfl
      clear hG q0 q1 q2 q3;go_wp2
      go_meet
      case rel=>exact⟨by rw[HD.o],rfl⟩
     ·have m3:decide (f<0)=PV:=eB;have HD:L1 (ao=PV):=by rw[<-hG,ar (λh=>q3 h.2.2.2)];rfl
      clear hG q0 q1 q2 q3;go_wp2
      go_meet
      case rel=>exact⟨by rw[HD.o],rfl⟩
    ·have m2:(q != 2)=PV:=eB;have HD:L1 (ao=PV):=by rw[<-hG,ar (λh=>q2 h.2.2.1)];rfl
     clear hG q0 q1 q2;go_wp2
     go_meet
     case rel=>exact⟨by rw[HD.o],rfl⟩
   ·have m1:decide (1<(D:Int))=PV:=eB;have HD:L1 (ao=PV):=by rw[<-hG,ar (λh=>q1 h.2.1)];rfl
    clear hG q0 q1;go_wp2
    go_meet
    case rel=>exact⟨by rw[HD.o],rfl⟩
  ·have m0:((c1:Int) != 1)=PV:=eB;have HD:L1 (ao=PV):=by rw[<-hG,ar (λh=>q0 h.1)];rfl
   go_wp2
   go_meet
   case rel=>exact⟨by rw[HD.o],rfl⟩
 case rest=>
 obtain⟨rfl,dk⟩:=hcut;have dk:=dk.s;subst dk;have HG:=H hG;obtain⟨t1,f8⟩:∃t1,(if ao=PV then N else O r)=t1:=⟨_,rfl⟩;have b6:=H f8
 go_upto_if 38 with fail
 go_cut []from 10 (λu=>L1 (Sy w C P S E K #[I U q,I U f,I U k2,MV k3,Z R V T,Z W el X,Z ga gl gc] #[I U l0,I U l1,I U l2,MV l3,Z ma ml mc,Z oa ol oc,Z pa pl pc] PF u t1 #[I U 8,I U m,I U n,MV Q,Z j y x,Z z B A,Z la ll lc] { kH a with kind:=8 }))
 case first=>
  obtain⟨⟨p3,h3⟩,o3⟩:=bm.o.sx.to_;cases ao with
  |true=>
   have HE:L1 (t1=N):=b6.o.s;have bb:=H (qW h3);go_wp2_with fail;go_call bb.o as a7 w4 ⟨rfl,h4,o4⟩;have a4:L1 (Sy w C P S E K #[I U q,I U f,I U k2,MV k3,Z R V T,Z W el X,Z ga gl gc] #[I U l0,I U l1,I U l2,MV l3,Z ma ml mc,Z oa ol oc,Z pa pl pc] PF w4 t1 #[I U 8,I U m,I U n,MV Q,Z j y x,Z z B A,Z la ll lc] { kH a with kind:=8 }):=by rw[HE.o];exact bm.step ⟨⟨_,h4⟩,o4⟩
   go_wp2
   go_meet
   case rel=>exact a4
  |false=>
   have HE:L1 (t1=O r):=b6.o.s;have a4:L1 (Sy w C P S E K #[I U q,I U f,I U k2,MV k3,Z R V T,Z W el X,Z ga gl gc] #[I U l0,I U l1,I U l2,MV l3,Z ma ml mc,Z oa ol oc,Z pa pl pc] PF W3 t1 #[I U 8,I U m,I U n,MV Q,Z j y x,Z z B A,Z la ll lc] { kH a with kind:=8 }):=by rw[HE.o];exact bm
   clear h3 o3;go_wp2
   go_meet
   case rel=>exact a4
 case rest=>
 obtain⟨w4,gi⟩:∃w4,w4=wc:=⟨_,rfl⟩;subst gi;have a4:=H hcut;clear hcut bm
 go_upto_if 42 with fail
 go_cut []from 10 (λu=>∃(L:Option L2) (xl M:Nat) (fs:List Nat) (J:Option (List Nat)),L1 (Sy w C P S E K #[I U q,I U f,I U k2,MV k3,Z R V T,Z W el X,Z ga gl gc] #[I U l0,I U l1,I U l2,MV l3,Z ma ml mc,Z oa ol oc,Z pa pl pc] PF u J #[I U 8,I U m,I U n,MV Q,Z j y x,Z z B A,Z L xl M] { kH a with kind:=8,filters:=fs })/\L1 ((J=N/\(t1=N\/ii a=N\/∃ek,ii a=O ek/\4<G ek))\/(J=t1/\(t1=N\/ii a=O fs))))
 case first=>
  by_cases hq:D=1
  ·have m1:((D:Int)==1)=PV:=by rw[hq];rfl
   obtain⟨c,F⟩:∃c,PF=[c]:=by
    have:=ch.o;rw[hq]at this;match PF,this with
    | [c],_=>exact⟨c,rfl⟩
   have eq:gF (uh w P) 11 w4 (N1 #[I U l0,I U l1,I U l2,MV l3,Z ma ml mc,Z oa ol oc,Z pa pl pc]) c:=by have:=a4.o.fnd;rw[F]at this;exact this
   obtain⟨⟨p4,h4⟩,o4⟩:=a4.o.sx.to_;have e3:=H (MP h4 eq (e7 c (by rw[F];simp)));have e5:L1 (ii a=kC (kq c)):=by have:=cj.o;rw[F]at this;exact this
   obtain⟨⟨r0,r1,r2,r3,r4,r5,r6⟩,f0,f1,f2,f3,f4,f5,f6⟩:=nD a4.d7;have hi:=ae a4.sx.b4;generalize kq c=KT at *;clear f0 f1 f2 f3 f4 f5 f6 hq eq h4 o4 F;go_wp2_with fail;go_call e3.o as a7 w5 ⟨fv,rfl,ce,k5⟩;obtain⟨L,M,fi⟩:=jp ce;subst fi;have bo:=H (a4.step k5);have e8:L1 (jz (uh w P) w5 3 1 (Z L (G KT) M) (KT.map λad=>jy (ge ad.2)).length ((KT.map λad=>jy (ge ad.2)).map λfb:Nat=>I U fb)):=by
    refine jz.of (b:=w4.heap.size) ?_ (λe hg=>?_);·rw[aw,fH];exact ce
    ·have:=(ce.lt e hg).1;exact P4 Y
   have b7:=H (bo.put 6 (Z L (G KT) M) (gF.filtersTo bo.vin e8));have c6:=(nD bo.sx.b3).1.2.2.2.2.2.2;have f6:=(nD bo.sx.b3).2.2.2.2.2.2.2;clear ce k5 r0 r1 r2 r3 r4 r5 r6;go_wp2
   go_meet
   case rel=>
    refine⟨L,G KT,M,_,_,b7,?_⟩;have hf:=e5.o;rw[oY]at hf;unfold rF;by_cases j:KT.all kP=PV
    ·rw[ai j]at hf;by_cases hN:KT=[]\/(G KT)<=4;·rw[ai ⟨hN,j⟩];exact P4 ⟨rfl,P4 hf⟩
     ·rw[ah (λh=>hN h.1)];exact P3 ⟨rfl,P4 (P4 ⟨_,hf,by rw[aw];have:=λh=>hN (P4 h);omega⟩)⟩
    ·rw[ah j]at hf;rw[ah (λh=>j h.2)];exact P3 ⟨rfl,P4 (P3 hf)⟩
  ·have m1:((D:Int)==1)=P2:=eB;have HE:L1 (t1=N\/ii a=O []):=by
    have h1:=ch.o;have h2:=cj.o;match PF,h1,h2 with
    | [],h1,h2=>exact P4 h2
    | [c],h1,h2=>exact absurd h1 hq
    |c::gv::gr,h1,h2=>left;rw[<-b6.o,<-HG.o,ar (λh=>by have:=h.2.1;simp at h1;omega)];rfl
   have b7:L1 (Sy w C P S E K #[I U q,I U f,I U k2,MV k3,Z R V T,Z W el X,Z ga gl gc] #[I U l0,I U l1,I U l2,MV l3,Z ma ml mc,Z oa ol oc,Z pa pl pc] PF w4 t1 #[I U 8,I U m,I U n,MV Q,Z j y x,Z z B A,Z la ll lc] { kH a with kind:=8,filters:=[]}):=by
    have h1:=((pX a).2.2).t HM.1.2.2.2.2.1;have h2:=a4.o;have h3:({ kH a with kind:=8 }:gk (VT 11))={ kH a with kind:=8,filters:=[]}:=by rw[<-h1]
    rw[h3]at h2;exact h2
   go_wp2
   go_meet
   case rel=>exact⟨la,ll,lc,[],t1,b7,P4 ⟨rfl,HE⟩⟩
 case rest=>
 obtain⟨L,xl,M,fs,J,bo,d0⟩:=hcut;obtain⟨w5,gp⟩:∃w5,w5=wc:=⟨_,rfl⟩;subst gp;have ey:L1 (1<D->ii a=N):=λh=>by
  have h1:=ch.o;have h2:=cj.o;match PF,h1,h2 with
  | [],h1,h2=>simp at h1;omega
  | [c],h1,h2=>simp at h1;omega
  |c::gv::gr,h1,h2=>exact h2
 have bz:=H (se ex e6 ey HG b6 d0);obtain⟨⟨p5,h5⟩,o5⟩:=bo.o.sx.to_;have H6:=H (wT h5 {data:=#[13]} cO);rw[show bl {data:=#[13]}=[13]from rfl]at H6;go_wp2_with fail;go_call H6.o as a7 w6 ⟨rfl,k6⟩;have b7:=H (bo.step k6);obtain⟨p6,h6⟩:=k6.1;have H7:=H (xP h6 {data:=#[10]} cO);rw[show bl {data:=#[10]}=[10]from rfl]at H7;go_wp2_with fail;go_call H7.o as a7 w7 ⟨rfl,k7⟩;have b8:=H (b7.step k7);obtain⟨t4,eo⟩:∃t4,(cS [13] J).bind (f_ [10])=t4:=⟨_,rfl⟩;rw[eo]at b8 k7;have cb:=H eo;obtain⟨g,h7⟩:=k7.1;have c0:=h7.c0;have cd:=h7.c1;have ee:=h7.c2;have g3:=h7.lp;have g4:=h7.ls;have y1:=(nD b8.d5).1.2.1;have bd:=H h7;generalize qT [13] J=CB at *;cases t4 with
 |none=>
  simp only[Option.isNone_none]at ee;go_wp2_with fail;go_quiet (fail);have bb:=H (qW (bd.drewN nq));have a5:=H (b8.step ⟨⟨_,bd.drewN nq⟩,(gB.refl _ _).drewN nq⟩);generalize w7.drewN nq=W8 at *;go_wp2_with fail;go_call bb.o as a7 w9 ⟨rfl,h9,o9⟩;have a6:=H (a5.step ⟨⟨_,h9⟩,o9⟩);obtain⟨⟨r0,r1,r2,r3,r4,r5,r6⟩,f0,f1,f2,f3,f4,f5,f6⟩:=nD a6.sx.b3;obtain⟨⟨s0,s1,s2,s3,s4,s5,s6⟩,z0,z1,z2,z3,z4,z5,z6⟩:=sF a6.sx.b4;have a8:L1 (pu f J=N):=by unfold Hid pu;rw[cb.o];rfl
  go_wp2;have v:=H (a6.fin rfl);refine av (v:=N1 #[I U 8,I U m,I U n,MV Q,Z j y x,Z z B A,Z L xl M]) ?_ rfl ?_;·exact aE results175 _ _ (w.heap.size+1) 67 _ _ _ rfl v.1 aK rfl aG
  ·exact⟨_,N,rfl,⟨_,_,_,_,_,_,_,_,_,_,_,_,_,rfl⟩,v.2.1,P3 ⟨rfl,bz.1 a8⟩⟩
 |some l=>
  simp only[Option.isNone_some]at ee;have g6:=bd.o.len;have ev:=H bd.bytes;by_cases hk:f<=(G l:Int)
  ·have hd:decide ((S.size:Int)-(g:Int)<f)=P2:=eB;have fu:0<=f:=by
    have h1:=cb.o;cases h2:J with
    |none=>rw[h2]at h1;cases h1
    |some r2=>
     have h3:t1=J:=by
      rcases d0.o with h|h;·rw[h2]at h;cases h.1
      ·exact h.1.s
     have h4:=b6.o;have h5:=HG.o;by_cases en:c1=1/\D<=1/\q=2/\0<=f;·exact en.2.2.2
     ·rw[ar en]at h5;subst h5;rw[h3,h2]at h4;cases h4
   obtain⟨d,hn⟩:=Int.eq_ofNat_of_zero_le fu;subst hn;go_wp2_with fail;go_quiet (fail);have a5:=H (b8.step ⟨⟨_,bd.drewN nq⟩,(gB.refl _ _).drewN nq⟩);have b5:=H (bd.drewN nq);generalize w7.drewN nq=W8 at *;have c0:=b5.o.c0;have cd:=b5.o.c1;have y1:=(nD a5.d5).1.2.1;have y3:=(nD a5.sx.b3).1.2.2.2.1;have z3:=(nD a5.sx.b3).2.2.2.2.1;have ho:IntKind.i64.wrap ((g:Int)+(d:Int))=((g+d:Nat):Int):=by rw[aU];omega
   have hs:(0:Int)<=(g:Int)+(d:Int):=Y;have ht:(g:Int)+(d:Int)<=(S.size:Int):=Y;have hu:((g:Int)+(d:Int)).toNat=g+d:=Y;have hw:(g:Int)<=(g:Int)+(d:Int):=Y;go_wp2_with fail;go_region;have d1:L1 (S.extract g (g+d)=ge (l.take d)):=by unfold Hid;rw[<-uN (S.extract g (g+d)),bp S g d Y,b5.o.rest l rfl]
   rw[d1.o];have a6:L1 (Sy w C P S E K #[I U q,I U (d:Nat),I U k2,MV k3,Z R V T,Z W el X,Z ga gl gc] #[I U l0,I U l1,I U l2,MV l3,Z ma ml mc,Z oa ol oc,Z pa pl pc] PF (W8.setCell ⟨w.heap.size,3,N⟩ (MV (ge (l.take d)))) (O l) #[I U 8,I U m,I U n,MV (ge (l.take d)),Z j y x,Z z B A,Z L xl M] { kH a with kind:=8,filters:=fs,text:=l.take d }):=a5.o.put 3 (MV (ge (l.take d))) (gF.textTo a5.vin (l.take d));have br:L1 (Sn C S (W8.setCell ⟨w.heap.size,3,N⟩ (MV (ge (l.take d)))).drew g (O l)):=b5.o.onlyS (((gB.refl w.heap.size W8).setCell 3 _).t (gB.drew _)) Y;have cp:=H (a6.step ⟨⟨g,br⟩,gB.drew _⟩);generalize (W8.setCell ⟨w.heap.size,3,N⟩ (MV (ge (l.take d)))).drew=W9 at *;generalize ge (l.take d)=TX at *;clear c0 cd y1 y3 z3 a5 b5 a6 d1;have cd:=br.o.c1;have fd:=br.o.fz 1;have y1:=(nD cp.d5).1.2.1;have ck:L1 (Sn C S (W9.setCell ⟨C,1,N⟩ (I U ((g:Int)+(d:Int)))).drew (g+d) (O (l.drop d))):=by
    have h1:=br.o.at_ (g+d) Y (t:=O (l.drop d)) rfl (λr hr=>by cases hr;rw[<-br.o.rest l rfl,di])
    exact⟨h1.blk,h1.lp,h1.ls,h1.rest⟩
   have eb:=H (cp.step ⟨⟨_,ck⟩,((gB.refl C W9).setCell 1 _).t (gB.drew _)⟩);go_wp2_with fail;go_region;generalize (W9.setCell ⟨C,1,N⟩ (I U ((g:Int)+(d:Int)))).drew=g0 at *;have cg:=H (xP ck {data:=#[10,101,110,100,115,116,114,101,97,109]} cO);rw[show bl {data:=#[10,101,110,100,115,116,114,101,97,109]}=[10,101,110,100,115,116,114,101,97,109]from rfl]at cg;clear cd fd y1 cp br ck;go_wp2_with fail;go_call cg.o as a7 hj ⟨rfl,cf⟩;have cr:=H (eb.step cf);have co:L1 (pu (d:Nat) J=(f_ [10,101,110,100,115,116,114,101,97,109] (l.drop d)).bind λbx=>if pS (O bx)=PV then N else O (l.take d,bx)):=by unfold Hid pu;rw[cb.o];simp only[Option.bind_some];rw[ai Y];rfl
   simp only[Option.bind_some]at cf cr;generalize f_ [10,101,110,100,115,116,114,101,97,109] (l.drop d)=t6 at *;obtain⟨gs,cv⟩:=cf.1;have dv:=H (Bp cv);have dw:=H cv;clear cv cf cg eb;go_wp2_with fail;go_call dv.o as a7 gt ⟨rfl,es,db⟩;have cn:L1 (Sn C S gt gs t6):=by rw[db];exact dw.drewN es
   have bs:=H (cr.step ⟨⟨_,cn⟩,by rw[db];exact(gB.refl _ _).drewN es⟩);clear db dv dw cr;cases hp:pS t6 with
   |true=>
    have bb:=H (qW cn);have a8:L1 (pu (d:Nat) J=N):=by
     unfold Hid;rw[co.o];cases t6 with
     |none=>rfl
     |some bx=>simp only[Option.bind_some];rw[ai hp]
    go_wp2_with fail;go_call bb.o as a7 hm ⟨rfl,em,eu⟩;have cs:=H (bs.step ⟨⟨_,em⟩,eu⟩);obtain⟨⟨r0,r1,r2,r3,r4,r5,r6⟩,f0,f1,f2,f3,f4,f5,f6⟩:=nD cs.sx.b3;obtain⟨⟨s0,s1,s2,s3,s4,s5,s6⟩,z0,z1,z2,z3,z4,z5,z6⟩:=sF cs.sx.b4;clear em eu bs cn bb f0 f1 f2 f3 f4 f5 f6;go_wp2;have v:=H (cs.fin rfl);refine av (v:=N1 #[I U 8,I U m,I U n,MV TX,Z j y x,Z z B A,Z L xl M]) ?_ rfl ?_;·exact aE results175 _ _ (w.heap.size+1) 67 _ _ _ rfl v.1 aK rfl aG
    ·exact⟨_,N,rfl,⟨_,_,_,_,_,_,_,_,_,_,_,_,_,rfl⟩,v.2.1,P3 ⟨rfl,bz.1 a8⟩⟩
   |false=>
    obtain⟨⟨r0,r1,r2,r3,r4,r5,r6⟩,f0,f1,f2,f3,f4,f5,f6⟩:=nD bs.sx.b3;obtain⟨⟨s0,s1,s2,s3,s4,s5,s6⟩,z0,z1,z2,z3,z4,z5,z6⟩:=sF bs.sx.b4;clear f0 f1 f2 f3 f4 f5 f6;cases t6 with
    |none=>
     have a8:L1 (pu (d:Nat) J=N):=co.o;clear hp;go_wp2;have v:=H (bs.fin rfl);refine av (v:=N1 #[I U 8,I U m,I U n,MV TX,Z j y x,Z z B A,Z L xl M]) ?_ rfl ?_;·exact aE results175 _ _ (w.heap.size+1) 67 _ _ _ rfl v.1 aK rfl aG
     ·exact⟨_,N,rfl,⟨_,_,_,_,_,_,_,_,_,_,_,_,_,rfl⟩,v.2.1,P3 ⟨rfl,bz.1 a8⟩⟩
    |some bx=>
     have a8:L1 (pu (d:Nat) J=O (l.take d,bx)):=by unfold Hid;rw[co.o];simp only[Option.bind_some];rw[hp];rfl
     clear hp;go_wp2;have v:=H (bs.fin rfl);refine av (v:=N1 #[I U 8,I U m,I U n,MV TX,Z j y x,Z z B A,Z L xl M]) ?_ rfl ?_;·exact aE results175 _ _ (w.heap.size+1) 67 _ _ _ rfl v.1 aK rfl aG
     ·exact⟨_,O bx,rfl,⟨_,_,_,_,_,_,_,_,_,_,_,_,_,rfl⟩,v.2.1,P4 ⟨_,_,(bz.2 _ _ a8).2,rfl,v.2.2,λc F=>ev c (dj F)⟩⟩
  ·have hd:decide ((S.size:Int)-(g:Int)<f)=PV:=eB;go_wp2_with fail;go_quiet (fail);have bb:=H (qW (bd.drewN nq));have a5:=H (b8.step ⟨⟨_,bd.drewN nq⟩,(gB.refl _ _).drewN nq⟩);generalize w7.drewN nq=W8 at *;go_wp2_with fail;go_call bb.o as a7 w9 ⟨rfl,h9,o9⟩;have a6:=H (a5.step ⟨⟨_,h9⟩,o9⟩);obtain⟨⟨r0,r1,r2,r3,r4,r5,r6⟩,f0,f1,f2,f3,f4,f5,f6⟩:=nD a6.sx.b3;obtain⟨⟨s0,s1,s2,s3,s4,s5,s6⟩,z0,z1,z2,z3,z4,z5,z6⟩:=sF a6.sx.b4;have a8:L1 (pu f J=N):=by unfold Hid pu;rw[cb.o];simp only[Option.bind_some];rw[ah Y]
   go_wp2;have v:=H (a6.fin rfl);refine av (v:=N1 #[I U 8,I U m,I U n,MV Q,Z j y x,Z z B A,Z L xl M]) ?_ rfl ?_;·exact aE results175 _ _ (w.heap.size+1) 67 _ _ _ rfl v.1 aK rfl aG
   ·exact⟨_,N,rfl,⟨_,_,_,_,_,_,_,_,_,_,_,_,_,rfl⟩,v.2.1,P3 ⟨rfl,bz.1 a8⟩⟩
end
section
variable{c:Nat}{S:ByteArray}{w d:Gr}{p:Nat}{s t:Option (List Nat)}
def Bk(a:List Nat)(s:Option (List Nat)):(if kJ s=a then mJ s else N)=s.bind (gg a):=by
 cases s with
 |none=>show(if _ then N else N)=N;split<;>rfl
 |some r=>rfl
def Mp(s:Option (List Nat)):(if l7 s=PV then lK s else N)=s.bind gJ:=by
 cases s with
 |none=>rfl
 |some r=>unfold l7 lK;simp only[Option.bind_some,aZ];cases gJ r<;>rfl
def tS(e b:Nat)(s:Option (List Nat)):Option Int:=s.bind λr=>(lG e r).bind λa=>(lJ b a.2).map λ_=>a.1
def t_(a:Nat)(t:Option (List Nat)):Option (List Nat):=(lK (((((t.bind (gg [115,116,97,114,116,120,114,101,102])).bind (gg (gE a))).bind gJ).bind (f_ [37,37,69,79,70])))).bind λb=>if b=[]then O []else N
def IJ(a:Nat)(b:List Nat):t_ a (O b)=lJ a b:=by
 unfold t_ lJ lK;simp only[Option.bind_some];cases gg [115,116,97,114,116,120,114,101,102] b with
 |none=>rfl
 |some e=>
  simp only[Option.bind_some];cases gg (gE a) e with
  |none=>rfl
  |some f=>
   simp only[Option.bind_some];cases gJ f with
   |none=>rfl
   |some g=>
    simp only[Option.bind_some];cases f_ [37,37,69,79,70] g with
    |none=>rfl
    |some h=>rfl
def PE(b e:Nat)(s:Option (List Nat)):tS b e s=(nL 11 (((s.bind (gg [116,114,97,105,108,101,114])).map f9).bind (f_ [60,60]))).bind λa=>(lh b (show gk (VT 11)from a.1)).bind λf=>(lJ e a.2).map λ_=>f:=by
 unfold tS;cases s with
 |none=>rfl
 |some r=>
  simp only[Option.bind_some];unfold lG;cases gg [116,114,97,105,108,101,114] r with
  |none=>rfl
  |some g=>
   simp only[aZ,Option.bind_some];cases f_ [60,60] (f9 g)with
   |none=>rfl
   |some t=>
    simp only[nL,Option.bind_some];cases js (gj 11) (G t+1) t with
    |none=>rfl
    |some a=>
     simp only[aZ,Option.bind_some];cases lh b ⟨7,0,0,[],a.1.2,a.1.1,[]⟩with
     |none=>rfl
     |some f=>rfl
def PC{z A:Nat->Prop}{V:gk (VT 11)}{J K:Gr}{n o q m:Nat}{r u v x:Int}{L M P Q R T W X y5 y6:GI}(a:o=(gV {data:=#[83,105,122,101]} V.keys V.items).length)(k:mU z 11 J (N1 #[I U r,I U u,L,M,P,Q,R]) (gV {data:=#[83,105,122,101]} V.keys V.items))
  (e:q=(gV {data:=#[82,111,111,116]} V.keys V.items).length) (l:mU A 11 K (N1 #[I U v,I U x,T,W,X,y5,y6]) (gV {data:=#[82,111,111,116]} V.keys V.items)) (E:m=V.keys.length):lh n V=if o=1/\q=1/\m=2/\r=2/\u=((n+1:Nat):Int)/\v=9 then O x else N:=by
 unfold lh itemOf;rw[<-E];by_cases f:m=2
 ·rw[ai f];match hp:gV {data:=#[83,105,122,101]} V.keys V.items,a,k with
  | [],a,_=>rw[ah (by simp at a;omega)]
  |B::b::F,a,_=>rw[ah (by simp at a;omega)]
  | [y],a,k=>
   obtain⟨e0,e1⟩:=k.one rfl;simp only[];by_cases i:kO y=2
   ·rw[ai i];simp only[];by_cases g:pC y=((n+1:Nat):Int)
    ·rw[ai g];match hq:gV {data:=#[82,111,111,116]} V.keys V.items,e,l with
     | [],e,_=>rw[ah (by simp at e;omega)];rfl
     |B::b::F,e,_=>rw[ah (by simp at e;omega)];rfl
     | [aa],e,l=>
      obtain⟨C,D⟩:=l.one rfl;simp only[];by_cases j:kO aa=9;·rw[ai j,ai ⟨a,e,f,by rw[e0,i];rfl,by rw[e1,g],by rw[C,j];rfl⟩,D];rfl
      ·rw[ah j,ah (λh=>j (by have:=h.2.2.2.2.2;omega))];rfl
    ·rw[ah g,ah (λh=>g (by rw[<-e1];exact h.2.2.2.2.1))]
   ·rw[ah i,ah (λh=>i (by have:=h.2.2.2.1;omega))]
 ·rw[ah f,ah (λh=>f h.2.2.1)]
def BZ(c:Nat)(S:ByteArray)(a:Option Int)(w:Gr)(e:MB)(d:Gr):Prop:=∃(b:Int) (t:Option (List Nat)),e=Ps (I U b)/\jP c S w d t/\((t=N/\a=N)\/(t=O []/\a=O b))
def MX(h:Sn c S w p s)(j i:Nat)(hn:j<=200000)(ha:i<=200000):K8 Qe 126 #[M2 (O ⟨c,0,N⟩),I U (j:Nat),I U (i:Nat)] w (BZ c S (tS j i s) w):=by
 have f2:=h.lt;have H1:=H (Bo h {data:=#[116,114,97,105,108,101,114]} cO);rw[show bl {data:=#[116,114,97,105,108,101,114]}=[116,114,97,105,108,101,114]from rfl,Bk]at H1;obtain⟨a7,g⟩:∃a7,tS j i s=a7:=⟨_,rfl⟩;rw[g];rw[PE]at g;generalize s.bind (gg [116,114,97,105,108,101,114])=s1 at *;have HR:=H g;clear h g
 go_in
 go_wp2_with fail;go_call H1.o as b w1 ⟨rfl,⟨p1,h1⟩,o1⟩;have O1:=H o1;have H2:=H (uF h1);clear h1 o1 H1;go_wp2_with fail;go_call H2.o as b w2 ⟨rfl,⟨p2,h2⟩,o2⟩;have O2:=H (O1.t o2);have H3:=H (xP h2 {data:=#[60,60]} cO);rw[show bl {data:=#[60,60]}=[60,60]from rfl]at H3;clear h2 o2 H2 O1;go_wp2_with fail;go_call H3.o as b w3 ⟨rfl,⟨p3,h3⟩,o3⟩;have O3:=H (O2.t o3);generalize (s1.map f9).bind (f_ [60,60])=Q at *;have H4:=H (Jl (k:=11) (ag _) (FM 11 Y) h3);have cn:L1 (∀e a,nL 11 Q=O (e,a)->(gk.keys (α:=VT 11) e).length=(gk.items (α:=VT 11) e).length/\(gk.keys (α:=VT 11) e).length<=200001):=λe a b=>by
  cases Q with
  |none=>cases b
  |some r=>simp only[nL,Option.bind_some,Option.map_eq_some_iff]at b;obtain⟨b9,e1,e2⟩:=b;cases e2;have:=mW (f:=gj 11) (λr gf a h=>iQ h) _ _ _ _ e1;have h5:=h3.len;have h6:=h3.ls;exact⟨this.1,by show b9.1.1.length<=_;omega⟩
 clear h3 o3 H3 O2;go_wp2_with fail;apply H4.o.m;intro b M c8;obtain⟨n0,n1,n2,W,ja,jl,jc,ka,q,kc,fa,fl,fc,t4,rfl,⟨⟨p4,h4⟩,o4⟩,bb⟩:=mV.any c8;have bo:=H (O3.t o4);have bm:L1 (KV w3.heap.size 11 M (N1 #[I U n0,I U n1,I U n2,MV W,Z ja jl jc,Z ka q kc,Z fa fl fc]) ((nL 11 Q).map Prod.fst)):=by
  rcases bb with⟨h1,h2,h3⟩|⟨e,a,h1,h2,h3⟩;·rw[h1];exact h3
  ·have:=cn.o e a h1;rw[h1];exact⟨h3,Nat.le_of_eq this.1,this.2⟩
 have cv:L1 (t4=(nL 11 Q).map Prod.snd):=by
  rcases bb with⟨h1,h2,h3⟩|⟨e,a,h1,h2,h3⟩;·rw[h1];exact h2
  ·rw[h1];exact h2
 have ck:L1 (∀e a,nL 11 Q=O (e,a)->q=(gk.keys (α:=VT 11) e).length):=λe a b=>by
  rcases bb with⟨h1,h2,h3⟩|⟨V',q',h1,h2,h3⟩;·rw[h1]at b;cases b
  ·rw[h1]at b;cases b;obtain⟨iv,kv,fv,vs,e1,_,_,_,hK,_⟩:=gF.parts (V:=e) h3;obtain⟨f4,f5,rfl⟩:=jp hK.1;simp[nV]at e1;exact e1.2.2.2.2.2.1.2.1
 have bW:LT M.heap.size M (M.alloc (Pp #[I U n0,I U n1,I U n2,MV W,Z ja jl jc,Z ka q kc,Z fa fl fc] 67)):=(aq _ _).alloc (ag _) _;have H5:=H (rA {data:=#[83,105,122,101]} (bm.below bW));have ct:=H h4;have ci:=H bW;have br:L1 ((M.alloc (Pp #[I U n0,I U n1,I U n2,MV W,Z ja jl jc,Z ka q kc,Z fa fl fc] 67)).heap[M.heap.size]?=O (Pp #[I U n0,I U n1,I U n2,MV W,Z ja jl jc,Z ka q kc,Z fa fl fc] 67 (0,0))):=bn _ _;clear h4 o4 c8 bb H4 bW O3;go_wp2_with fail;go_call H5.o as b R ⟨v5,fz,X,rfl,b5,ex,ev,hg5⟩;obtain⟨a0,a1,a2,a3,aa,al,ac,ba,c4,bc,ca,cl,cc,rfl⟩:=ex;obtain⟨B,C,k2,k3,da,dl,dc,ea,el,ec,ga,gl,gc,rfl⟩:=ev;have cj:=H hg5;have a5:=H (ci.t (b5.m eA));have bs:L1 (R.heap[M.heap.size]?=O (Pp #[I U n0,I U n1,I U n2,MV W,Z ja jl jc,Z ka q kc,Z fa fl fc] 67 (0,0))):=by unfold Hid;rw[b5.block _ (ae br.o)];exact br
 clear b5 hg5 H5 br ci;obtain⟨P,a8⟩:∃P,(R.alloc (Pp #[I U a0,I U a1,I U a2,MV a3,Z aa al ac,Z ba c4 bc,Z ca cl cc] 67)).alloc (Pp #[I U B,I U C,I U k2,MV k3,Z da dl dc,Z ea el ec,Z ga gl gc] 67)=P:=⟨_,rfl⟩;have u:LT R.heap.size R P:=by rw[<-a8];exact((aq _ _).alloc (ag _) _).alloc eA _
 have cb:=(u.block _ (ae bs)).t bs;have db:P.heap[R.heap.size+1]?=O (Pp #[I U B,I U C,I U k2,MV k3,Z da dl dc,Z ea el ec,Z ga gl gc] 67 (0,0)):=by rw[<-a8];have:=bn (R.alloc (Pp #[I U a0,I U a1,I U a2,MV a3,Z aa al ac,Z ba c4 bc,Z ca cl cc] 67)) (Pp #[I U B,I U C,I U k2,MV k3,Z da dl dc,Z ea el ec,Z ga gl gc] 67);rw[aL]at this;exact this
 have H6:=H (rA {data:=#[82,111,111,116]} ((bm.below a5).below u));obtain⟨d0,d1,d2,d3,d4,d5,d6⟩:=qu cb;have cx:=H a8;have bt:=H cb;have bw:=H db;have a6:=H (a5.t (u.m (by have:=a5.o.size;omega)));clear a8 cb db u bs
 go_upto_region 6 with fail
 rw[cx.o];go_wp2_with fail;go_call H6.o as b D ⟨v6,f0,c6,rfl,u,e3,ey,c7⟩;obtain⟨b0,b1,b2,b3,ha,hl,F,ia,il,ic,la,ll,lc,rfl⟩:=e3;obtain⟨y,z,r2,r3,ma,ml,mc,oa,ol,oc,pa,pl,pc,rfl⟩:=ey;obtain⟨x,a9⟩:∃x,(D.alloc (Pp #[I U b0,I U b1,I U b2,MV b3,Z ha hl F,Z ia il ic,Z la ll lc] 67)).alloc (Pp #[I U y,I U z,I U r2,MV r3,Z ma ml mc,Z oa ol oc,Z pa pl pc] 67)=x:=⟨_,rfl⟩;have b7:LT P.heap.size P x:=by rw[<-a9];exact(u.alloc u.size _).alloc (by simp;have:=u.size;omega) _
 have dk:=(b7.block _ (ae bt)).t bt;have cd:=(b7.block _ (ae bw)).t bw;have ce:x.heap[D.heap.size+1]?=O (Pp #[I U y,I U z,I U r2,MV r3,Z ma ml mc,Z oa ol oc,Z pa pl pc] 67 (0,0)):=by rw[<-a9];have:=bn (D.alloc (Pp #[I U b0,I U b1,I U b2,MV b3,Z ha hl F,Z ia il ic,Z la ll lc] 67)) (Pp #[I U y,I U z,I U r2,MV r3,Z ma ml mc,Z oa ol oc,Z pa pl pc] 67);rw[aL]at this;exact this
 have g5:=r_ dk;have g0:=mC cd;have g1:=n5 cd;have g9:=mC ce;have c3:=H ce;have d7:=H a9;have bi:=H (a6.t (b7.m (by have:=a6.o.size;omega)));have cu:=H (ct.o.other bi);have cp:=H (bo.t (.of_below bi));have co:L1 (D.heap.size+1≠c):=by have h1:=bo.o.size;have h2:=a6.o.size;have h3:=u.size;unfold Hid;omega
 obtain⟨l,A⟩:∃l,(!decide (X=1/\c6=1/\q=2/\B=2/\C=((j+1:Nat):Int)/\y=9))=l:=⟨_,rfl⟩;have dw:L1 ((∃v,(if l=PV then N else t4)=v/\((t_ i v=N/\a7=N)\/(t_ i v=O []/\a7=O z)))):=by
  refine⟨_,rfl,?_⟩;have g:=HR.o;cases J:nL 11 Q with
  |none=>
   rw[J]at g;have h1:t4=N:=by rw[cv.o,J];rfl
   left;rw[h1];exact⟨by cases l<;>rfl,g.s⟩
  |some b9=>
   obtain⟨e,a⟩:=b9;rw[J]at g;have h1:t4=O a:=by rw[cv.o,J];rfl
   have e5:=cj.o e (by rw[J];rfl);have e6:=c7 e (by rw[J];rfl);have e9:=PC (n:=j) (V:=e) e5.1 e5.2 e6.1 e6.2 (ck e a J);simp only[Option.bind_some]at g;rw[show lh j (show gk (VT 11)from e)=_ from e9]at g;rw[<-A];by_cases F:X=1/\c6=1/\q=2/\B=2/\C=((j+1:Nat):Int)/\y=9
   ·rw[ai F]at g;rw[aB F,h1];simp only[Option.bind_some]at g;show(t_ i (O a)=N/\_)\/(t_ i (O a)=O []/\_);rw[IJ];cases n:lJ i a with
    |none=>rw[n]at g;exact P3 ⟨rfl,g.s⟩
    |some gs=>
     rw[n]at g;refine P4 ⟨?_,g.s⟩;rw[<-IJ]at n;unfold t_ at n;cases hz:lK (((((O a).bind (gg [115,116,97,114,116,120,114,101,102])).bind (gg (gE i))).bind gJ).bind (f_ [37,37,69,79,70]))with
     |none=>rw[hz]at n;cases n
     |some z2=>
      rw[hz]at n;simp only[Option.bind_some]at n;split at n;·rw[<-n]
      ·cases n
   ·rw[ah F]at g;rw[ar F];exact P3 ⟨rfl,g.s⟩
 clear c7 u b7 dk cd ce a9 d0 d1 d2 d3 d4 d5 d6 H6 cj bm ck cn HR cx bt bw a5 a6 bi bo ct
 go_upto_region 7 with fail
 rw[d7.o];have f3:IntKind.i64.wrap ((j:Int)+1)=(j:Int)+1:=by rw[aU];omega
 go_cut [63]from 15 (λbv wx=>bv=OV l/\wx=x)
 case first=>
  by_cases q0:X=1
  ·have m0:((X:Int) != 1)=P2:=eB;by_cases q1:c6=1
   ·have m1:((c6:Int) != 1)=P2:=eB;by_cases q2:q=2
    ·have m2:((q:Int) != 2)=P2:=eB;by_cases q3:B=2
     ·have m3:(B != 2)=P2:=eB;by_cases q4:C=((j+1:Nat):Int)
      ·have m4:(C != (j:Int)+1)=P2:=eB;by_cases q5:y=9
       ·have m5:(y != 9)=P2:=eB;have m:L1 (l=P2):=by rw[<-A,aB ⟨q0,q1,q2,q3,q4,q5⟩];rfl
        go_wp2
        go_meet
        case rel=>exact⟨by rw[m.o],rfl⟩
       ·have m5:(y != 9)=PV:=eB;have m:L1 (l=PV):=by rw[<-A,ar (λh=>q5 h.2.2.2.2.2)];rfl
        go_wp2
        go_meet
        case rel=>exact⟨by rw[m.o],rfl⟩
      ·have m4:(C != (j:Int)+1)=PV:=eB;have m:L1 (l=PV):=by rw[<-A,ar (λh=>q4 h.2.2.2.2.1)];rfl
       go_wp2
       go_meet
       case rel=>exact⟨by rw[m.o],rfl⟩
     ·have m3:(B != 2)=PV:=eB;have m:L1 (l=PV):=by rw[<-A,ar (λh=>q3 h.2.2.2.1)];rfl
      go_wp2
      go_meet
      case rel=>exact⟨by rw[m.o],rfl⟩
    ·have m2:((q:Int) != 2)=PV:=eB;have m:L1 (l=PV):=by rw[<-A,ar (λh=>q2 h.2.2.1)];rfl
     go_wp2
     go_meet
     case rel=>exact⟨by rw[m.o],rfl⟩
   ·have m1:((c6:Int) != 1)=PV:=eB;have m:L1 (l=PV):=by rw[<-A,ar (λh=>q1 h.2.1)];rfl
    go_wp2
    go_meet
    case rel=>exact⟨by rw[m.o],rfl⟩
  ·have m0:((X:Int) != 1)=PV:=eB;have m:L1 (l=PV):=by rw[<-A,ar (λh=>q0 h.1)];rfl
   go_wp2
   go_meet
   case rel=>exact⟨by rw[m.o],rfl⟩
 case rest=>
 obtain⟨rfl,b4⟩:=hcut;have b4:=b4.s;subst b4;obtain⟨v,e7,eu⟩:=dw.o;have cw:=H e7;have T:=H eu
 go_upto_if 63 with fail
 go_cut []from 15 (λwx=>L1 (jP c S x wx v))
 case first=>
  cases l with
  |true=>
   have HE:L1 (v=N):=cw.o.s;have V:=H (qW cu);go_wp2_with fail;go_call V.o as b w8 ⟨rfl,h8,o8⟩;have E:L1 (jP c S x w8 v):=by rw[HE.o];exact⟨⟨_,h8⟩,o8⟩
   go_wp2
   go_meet
   case rel=>exact E
  |false=>
   have HE:L1 (v=t4):=cw.o.s;have E:L1 (jP c S x x v):=by rw[HE.o];exact cu.toS
   go_wp2
   go_meet
   case rel=>exact E
 case rest=>
 obtain⟨w8,fd⟩:∃w8,w8=wc:=⟨_,rfl⟩;subst fd;obtain⟨⟨p8,h8⟩,o8⟩:=hcut.o;have O8:=H o8;have H9:=H (Bo h8 {data:=#[115,116,97,114,116,120,114,101,102]} cO);rw[show bl {data:=#[115,116,97,114,116,120,114,101,102]}=[115,116,97,114,116,120,114,101,102]from rfl,Bk]at H9;go_wp2_with fail;go_call H9.o as b w9 ⟨rfl,⟨p9,h9⟩,o9⟩;have O9:=H (O8.t o9);have dp:=H (Ah i Y w9);have cf:=H (Bo h9 (ge (gE i)) (by rw[tF];exact aA (xx 18 _ Y) cO));rw[show bl (ge (gE i))=gE i from ui _ (yy i),Bk]at cf;generalize ge (gE i)=DA at *;go_wp2_with fail;go_call dp.o as b gr ⟨rfl,hw⟩;have hw:=hw.s;subst hw;go_wp2_with fail;go_call cf.o as b gi ⟨rfl,⟨f6,eo⟩,fi⟩;have eb:=H (O9.t fi);have cg:=H (Ep eo);obtain⟨L,e8⟩:∃L,(v.bind (gg [115,116,97,114,116,120,114,101,102])).bind (gg (gE i))=L:=⟨_,rfl⟩;unfold t_ at T;rw[e8]at cg T;go_wp2_with fail;go_call cg.o as b bd ⟨rfl,⟨f7,ep⟩,fr⟩;have ee:=H (eb.t fr);have cr:=H ep;rw[<-Mp]at T;generalize f1:l7 L=LB at *
 go_upto_if 75 with fail
 go_cut []from 15 (λwx=>L1 (jP c S bd wx (if LB=PV then lK L else N)))
 case first=>
  cases LB with
  |true=>
   have E:L1 (jP c S bd bd (if PV=PV then lK L else N)):=cr.o.toS;go_wp2
   go_meet
   case rel=>exact E
  |false=>
   have V:=H (qW cr);go_wp2_with fail;go_call V.o as b bf ⟨rfl,bz,b8⟩;have E:L1 (jP c S bd bf (if P2=PV then lK L else N)):=⟨⟨_,bz⟩,b8⟩;go_wp2
   go_meet
   case rel=>exact E
 case rest=>
 obtain⟨bf,fb⟩:∃bf,bf=wc:=⟨_,rfl⟩;subst fb;generalize (if LB=PV then lK L else N)=t9 at *;obtain⟨⟨f8,bz⟩,b8⟩:=hcut.o;have ek:=H (ee.t b8);have ch:=H (xP bz {data:=#[37,37,69,79,70]} cO);rw[show bl {data:=#[37,37,69,79,70]}=[37,37,69,79,70]from rfl]at ch;go_wp2_with fail;go_call ch.o as b gp ⟨rfl,⟨gd,eq⟩,fs⟩;have em:=H (ek.t fs);have dn:=H (Ep eq);go_wp2_with fail;go_call dn.o as b a4 ⟨rfl,⟨ao,ad⟩,fu⟩;have bx:=H (em.t fu);generalize lK (t9.bind (f_ [37,37,69,79,70]))=K at *;generalize l7 (t9.bind (f_ [37,37,69,79,70]))=fx at *;have c0:=ad.c0;have c1:=ad.c1;have cs:=H ad;have cy:L1 (a4.heap[D.heap.size+1]?=O (Pp #[I U y,I U z,I U r2,MV r3,Z ma ml mc,Z oa ol oc,Z pa pl pc] 67 (0,0))):=by unfold Hid;rw[bx.o.block _ (ae c3.o) co.o];exact c3
 have HP:L1 (∀a,K=O a->(ao=S.size↔a=[])):=λa hq=>by
  subst hq;have:=ad.len;constructor;·intro b;exact bM.1 Y
  ·intro b;subst b;exact ad.nil
 by_cases hp:ao=S.size
 ·have hd:((ao:Int) != (S.size:Int))=P2:=by rw[hp];simp
  have bq:L1 (K.bind (λa=>if a=[]then O []else N)=K):=by
   cases K with
   |none=>rfl
   |some a=>have:=(HP a rfl).1 hp;subst this;rfl
  go_wp2_with fail;go_quiet (fail);have g1:(a4.drewN nq).cell? ⟨D.heap.size+1,1,N⟩=O (I U z):=(iI cy).t rfl;generalize hW:a4.drewN nq=en at *;have HW:=H hW;go_wp2;go_ret;refine⟨z,K,rfl,⟨⟨ao,by rw[<-HW.o];exact cs.drewN nq⟩,by rw[<-HW.o];exact cp.t (bx.drewN nq)⟩,?_⟩;have:=T.o;rw[bq.o]at this;exact this
 ·have hd:((ao:Int) != (S.size:Int))=PV:=eB;have bq:L1 (K.bind (λa=>if a=[]then O []else N)=(N:Option (List Nat))):=by
   cases K with
   |none=>rfl
   |some a=>show(if a=[]then O []else N)=N;rw[ah (λb=>hp ((HP.o a rfl).2 b))]
  go_wp2_with fail;go_quiet (fail);have V:=H (qW (cs.drewN nq));have dr:=H (bx.drewN nq);have c2:L1 ((a4.drewN nq).heap[D.heap.size+1]?=_):=cy.o;generalize hW:a4.drewN nq=en at *;go_wp2_with fail;go_call V.o as b fw ⟨rfl,es,c9⟩;have g1:fw.cell? ⟨D.heap.size+1,1,N⟩=O (I U z):=by rw[iI ((c9.block _ (ae c2.o) co.o).t c2.o)];rfl
  have dv:=H es;have ds:=H (cp.t (dr.t c9));go_wp2;go_ret;refine⟨z,N,rfl,⟨⟨_,dv⟩,ds⟩,P3 ⟨rfl,?_⟩⟩;have:=T.o;rw[bq.o]at this;rcases this with h|h;·exact h.2
  ·cases h.1
def pW(s:Option (List Nat)):Option ((VT 12×List Nat)×List Nat):=((s.bind (gg [48])).bind (gg [111,98,106])).bind λq=>(iY q).bind λx=>(gg [101,110,100,111,98,106] x.2).map λa=>(x.1,a)
def ku(x:VT 12×List Nat):VT 12:=if gk.kind (α:=VT 11) x.1=8 then sT (k:=11) x.1 x.2 else x.1
def BJ(c:Nat)(S:ByteArray)(e:Option ((VT 12×List Nat)×List Nat))(w:Gr)(g:MB)(d:Gr):Prop:=∃(a:GI) (t:Option (List Nat)),g=Ps a/\mi a/\jP c S w d t/\((t=N/\tQ e)\/∃(b:VT 12×List Nat) (f:List Nat),e=O (b,f)/\t=O f/\gF (λh=>w.heap.size<=h) 12 d a (ku b)/\∀i∈b.2,i<256)
def Kk{k:Nat}{e:gk (VT k)}{r f:List Nat}{b:gk (VT k)×List Nat}(h:ju e r=O (b,f)):b.1.kind=8/\b.1.text=[]:=by
 unfold ju at h;split at h;·cases h
 ·split at h;·cases h
  ·split at h
   ·split at h;·cases h
    ·split at h
     ·split at h;·cases h
      ·next g a=>cases h;unfold jg at a;simp only[Option.map_eq_some_iff]at a;obtain⟨i,_,rfl⟩:=a;exact⟨rfl,rfl⟩
     ·cases h
   ·cases h
def M4{s:Option (List Nat)}(h:tQ (((s.bind (gg [48])).bind (gg [111,98,106])).bind iY)):tQ (pW s):=by
 unfold pW;cases b:(s.bind (gg [48])).bind (gg [111,98,106])with
 |none=>exact P3 rfl
 |some i=>
  rw[b]at h;simp only[Option.bind_some]at h ⊢;rcases h with h|⟨g,e,h,a⟩;·left;rw[h];rfl
  ·rw[h];simp only[Option.bind_some];cases gg [101,110,100,111,98,106] e with
   |none=>exact P3 rfl
   |some f=>exact P4 ⟨g,f,rfl,a⟩
def FO{s:Option (List Nat)}{e:VT 12×List Nat}{b:List Nat}(h:((s.bind (gg [48])).bind (gg [111,98,106])).bind iY=O (e,b)):pW s=(gg [101,110,100,111,98,106] b).map λf=>(e,f):=by
 unfold pW;cases a:(s.bind (gg [48])).bind (gg [111,98,106])with
 |none=>rw[a]at h;cases h
 |some g=>rw[a]at h;simp only[Option.bind_some]at h ⊢;rw[h];rfl
def Kx(c:Nat)(S:ByteArray)(b:Gr)(i:Nat)(g:Option ((VT 12×List Nat)×List Nat))(a:Gr)(f:Array GI)(t:Option (List Nat)):Prop:=
 a.heap[i]?=O (Pp f 67 (0,0))/\a.heap[b.heap.size]?=O (Pp gG 67 (0,0))/\jP c S b a t/\((t=N/\tQ g)\/∃(e:VT 12×List Nat) (j:List Nat),g=O (e,j)/\t=O j/\gF (λh=>b.heap.size+1<=h/\h≠i) 12 a (N1 f) (ku e)/\∀k∈e.2,k<256)
def MT(h:Sn c S w p s):K8 Qe 128 #[M2 (O ⟨c,0,N⟩)] w (BJ c S (pW s) w):=by
 have cx:=h.lt;have cw:=h.ls;have BW:L1 (LT w.heap.size w (w.alloc (Pp gG 67))):=(aq _ _).alloc (ag _) _;have H0:=H (h.other BW);have HZ:L1 ((w.alloc (Pp gG 67)).heap[w.heap.size]?=O (Pp gG 67 (0,0))):=bn _ _;have H1:=H (Bo H0 {data:=#[48]} cO);rw[show bl {data:=#[48]}=[48]from rfl,Bk]at H1;have b5:=H (λh=>@M4 s h);have b6:=H (λi e h=>@FO s i e h);obtain⟨b9,hR⟩:∃b9,pW s=b9:=⟨_,rfl⟩;rw[hR]at b5 b6 ⊢;clear h hR
 go_in
 go_wp2_with fail;go_call H1.o as g w1 ⟨rfl,⟨p1,h1⟩,o1⟩;have O1:=H ((gB.of_below BW).t o1);have bt:L1 (w1.heap[w.heap.size]?=O (Pp gG 67 (0,0))):=by unfold Hid;rw[o1.block _ eA Y];exact HZ
 have H2:=H (Bo h1 {data:=#[111,98,106]} cO);rw[show bl {data:=#[111,98,106]}=[111,98,106]from rfl,Bk]at H2;clear h1 o1 H1 HZ H0 BW;go_wp2_with fail;go_call H2.o as g w2 ⟨rfl,⟨p2,h2⟩,o2⟩;have O2:=H (O1.t o2);have bw:=H ((o2.block _ (ae bt) Y).t bt);generalize (s.bind (gg [48])).bind (gg [111,98,106])=j at *;have H3:L1 (K8 Qe 174 #[M2 (O ⟨c,0,N⟩),I U 0] w2 (mV c S 12 (j.bind (gj 12)) w2)):=FM 12 (ag _) w2 p2 j h2;have b4:L1 (∀b e,j.bind (gj 12)=O (b,e)->mL 200000 b):=λb e g=>by
  cases j with
  |none=>cases g
  |some r=>exact l_ (show gj 12 r=O (b,e)from g) (by have:=h2.len;have:=h2.ls;omega)
 clear h2 o2 H2 O1 bt;go_wp2_with fail;apply H3.o.m;intro g n cd;obtain⟨l,J,K,o,A,C,B,D,F,E,u,y,x,m,rfl,⟨⟨p3,h3⟩,o3⟩,ce⟩:=mV.any cd;obtain⟨q,bf⟩:∃q,n.alloc (Pp #[I U l,I U J,I U K,MV o,Z A C B,Z D F E,Z u y x] 67)=q:=⟨_,rfl⟩;have b3:LT n.heap.size n q:=by rw[<-bf];exact(aq _ _).alloc (ag _) _
 have x3:q.heap[n.heap.size]?=O (Pp #[I U l,I U J,I U K,MV o,Z A C B,Z D F E,Z u y x] 67 (0,0)):=by rw[<-bf];exact bn _ _
 have cp:=ae bw;have cy:=o3.size;have O3:=H (O2.t (o3.t (.of_below b3)));have bx:L1 (q.heap[w.heap.size]?=O (Pp gG 67 (0,0))):=by unfold Hid;rw[b3.block _ Y,o3.block _ cp Y];exact bw
 have bq:L1 ((j.bind (gj 12)=N/\m=N)\/∃b e,j.bind (gj 12)=O (b,e)/\m=O e/\gF (λa=>w2.heap.size<=a/\a<n.heap.size) 12 q (N1 #[I U l,I U J,I U K,MV o,Z A C B,Z D F E,Z u y x]) b):=by
  rcases ce with⟨h1,h2,_⟩|⟨b,e,h1,h2,h4⟩;·exact P3 ⟨h1,h2⟩
  ·exact P4 ⟨b,e,h1,h2,gF.keep 12 (gF.m 12 h4 (λa h1 h2=>⟨h1,h2⟩)) (λa h1 _=>b3.block a h1.2)⟩
 have a4:=H (h3.other b3);have bs:=H x3;have cn:=H bf;have d1:=a4.o.c1;have H4:=H (Bq a4);have b2:=H (Kt h3);clear h3 o3 cd ce H3 O2 bw b3 x3 bf
 go_upto_region 4 with fail
 rw[cn.o];go_wp2_with fail;go_call H4.o as g w4 ⟨rfl,⟨p4,h4⟩,o4⟩;have M:L1 (w4.heap[n.heap.size]?=O (Pp #[I U l,I U J,I U K,MV o,Z A C B,Z D F E,Z u y x] 67 (0,0))):=by unfold Hid;rw[o4.block _ (ae bs.o) Y];exact bs
 have a6:L1 (w4.heap[w.heap.size]?=O (Pp gG 67 (0,0))):=by unfold Hid;rw[o4.block _ (ae bx.o) Y];exact bx
 have bb:=H o4;have a5:=H h4;have O4:=H (O3.t o4);obtain⟨⟨r0,r1,r2,r3,r4,r5,r6⟩,_⟩:=nD M;have e1:((ge (kJ m)).toList==([115,116,114,101,97,109]:List UInt8))=decide (kJ m=[115,116,114,101,97,109]):=by rw[sD,ui _ b2.o];rfl
 obtain⟨TW,cb⟩:∃TW,ge (kJ m)=TW:=⟨_,rfl⟩;rw[cb]at e1 ⊢;clear h4 o4 d1 H4 cb b2;obtain⟨L,z⟩:∃L,decide (l=7/\kJ m=[115,116,114,101,97,109])=L:=⟨_,rfl⟩
 go_upto_region 6 with fail
 go_cut [24]from 6 (λbv wx=>bv=OV L/\wx=w4)
 case first=>
  by_cases q0:l=7
  ·have m0:(l==7)=PV:=eB;by_cases q1:kJ m=[115,116,114,101,97,109]
   ·rw[aB q1]at e1;have HD:L1 (L=PV):=by rw[<-z,aB ⟨q0,q1⟩];rfl
    clear z q0 q1;go_wp2
    go_meet
    case rel=>exact⟨by rw[HD.o],rfl⟩
   ·rw[ar q1]at e1;have HD:L1 (L=P2):=by rw[<-z,ar (λh=>q1 h.2)];rfl
    clear z q0 q1;go_wp2
    go_meet
    case rel=>exact⟨by rw[HD.o],rfl⟩
  ·have m0:(l==7)=P2:=eB;have HD:L1 (L=P2):=by rw[<-z,ar (λh=>q0 h.1)];rfl
   clear z q0;go_wp2
   go_meet
   case rel=>exact⟨by rw[HD.o],rfl⟩
 case rest=>
 obtain⟨rfl,b1⟩:=hcut;have b1:=b1.s;subst b1;have HG:=H z;clear z e1
 go_upto_if 24 with fail
 go_cut []from 6 (λwx=>∃(bm:Array GI) (t5:Option (List Nat)),mi (N1 bm)/\L1 (Kx c S w n.heap.size (j.bind iY) wx bm t5))
 case first=>
  cases L with
  |true=>
   have P:=of_decide_eq_true HG;obtain⟨b,q3,ao,cr,b0⟩:∃b e,j.bind (gj 12)=O (b,e)/\m=O e/\gF (λa=>w2.heap.size<=a/\a<n.heap.size) 12 q (N1 #[I U l,I U J,I U K,MV o,Z A C B,Z D F E,Z u y x]) b:=by
    rcases bq.o with h1|h1;·have:=P.2;rw[h1.2]at this;cases this
    ·exact h1
   subst cr;have bz:gk.kind (α:=VT 11) b=7:=by obtain⟨iv,kv,fv,vs,g,_⟩:=gF.parts (V:=b) b0;simp[nV]at g;have:=g.1;have:=P.1;omega
   have cg:=gF.keep 12 b0 (λa h1 h2=>bb.block a h2 Y);have cf:Sn c S w4 p4 (O (gm q3)):=a5.o;have ck:=H (MR cf cg (λa hg=>Y) (b4 b q3 ao) bz);have bo:L1 (j.bind iY=ju (k:=11) b (gm q3)):=by
    cases j with
    |none=>cases ao
    |some r=>have ao:gj 12 r=O (b,q3):=ao;show iY r=_;unfold iY;rw[ao];simp only[];rw[ai bz];unfold gg;rw[ai (show gn q3=[115,116,114,101,97,109]from P.2)]
   clear P b0 cg cf ao bz;go_wp2_with fail;go_call ck.o as g w5 ⟨v5,t5,rfl,⟨Q,R,T,V,W,al,X,ba,ad,bc,ca,cl,cc,rfl⟩,k5,a7⟩;have bd:L1 (w5.heap[n.heap.size]?=O (Pp #[I U l,I U J,I U K,MV o,Z A C B,Z D F E,Z u y x] 67 (0,0))):=by unfold Hid;rw[k5.2.block _ (ae M.o) Y];exact M
   obtain⟨⟨s0,s1,cu,s3,s4,s5,s6⟩,z0,z1,z2,z3,z4,z5,z6⟩:=nD bd;have br:=H a7;have a8:=H k5;clear a7 k5 r0 r1 r2 r3 r4 r5 r6;go_wp2
   go_meet
   case rel=>
    have f:=lX w5 n.heap.size (I U Q) (I U R) (I U T) (MV V) (Z W al X) (Z ba ad bc) (Z ca cl cc);have hl:=ae a6;have hz:=a8.o.2.size;have c7:=ae M;refine⟨_,t5,⟨Q,R,T,V,W,al,X,ba,ad,bc,ca,cl,cc,rfl⟩,vq bd _ _ _ _ _ _ _,?_,⟨?_,?_⟩,?_⟩;·rw[f.block _ Y Y,a8.o.2.block _ hl Y];exact a6
    ·obtain⟨q5,h5⟩:=a8.o.1;exact⟨q5,h5.onlyS f Y⟩
    ·have k:=O4.o.t a8.2;exact⟨f.os.t k.os,f.tape.t k.tape,f.output.t k.output,aA k.size f.size,λa h1 h2=>(f.block a (by have:=k.size;omega) Y).t (k.block a h1 h2)⟩
    ·rw[bo.o];rcases br.o with h1|⟨i,e,h1,h2,h3,h6⟩;·exact P3 h1
     ·refine P4 ⟨i,e,h1,h2,?_,h6⟩;have hx:ku i=sT (k:=11) i.1 i.2:=by unfold ku;rw[ai (Kk h1).1]
      rw[hx];exact gF.m 12 (gF.keep 12 h3 (λa h1 h2=>f.block a h2 (by rcases h1 with h1|h1<;>omega))) (λa h1 _=>by rcases h1 with h1|h1<;>omega)
  |false=>
   have P:=of_decide_eq_false HG;have ci:=H (a5.at_ p3 a4.lp (by cases m<;>rfl) a4.rest);have bo:L1 ((m=N/\tQ (j.bind iY))\/∃(i:VT 12×List Nat) (e:List Nat),j.bind iY=O (i,e)/\m=O e/\gF (λa=>w2.heap.size<=a/\a<n.heap.size) 12 q (N1 #[I U l,I U J,I U K,MV o,Z A C B,Z D F E,Z u y x]) (ku i)/\∀ch∈i.2,ch<256):=by
    rcases bq.o with⟨h1,h2⟩|⟨b,e,h1,h2,h3⟩
    ·refine P3 ⟨h2,P3 ?_⟩;cases j with
     |none=>rfl
     |some r=>have h1:gj 12 r=N:=h1;show iY r=N;unfold iY;rw[h1]
    ·refine P4 ⟨(b,[]),e,?_,h2,?_,λch hy=>by cases hy⟩
     ·cases j with
      |none=>cases h1
      |some r=>
       have h1:gj 12 r=O (b,e):=h1;show iY r=_;unfold iY;rw[h1];simp only[];by_cases hk:gk.kind (α:=VT 11) b=7
       ·rw[ai hk];have hw:¬gn e=[115,116,114,101,97,109]:=λg=>P ⟨by obtain⟨iv,kv,fv,vs,g,_⟩:=gF.parts (V:=b) h3;simp[nV]at g;have:=g.1;omega,by rw[h2];exact g⟩
        unfold gg;rw[ah hw]
       ·rw[ah hk]
     ·have:ku (b,[])=b:=by unfold ku;rw[ah];exact(b4 b e h1).2.2.2.1
      rw[this];exact h3
   have d1:=a5.o.c1;have f1:=a5.o.fz 1;clear P;go_wp2
   go_meet
   case rel=>
    have f:gB c w4 (w4.setCell ⟨c,1,N⟩ (I U (p3:Nat))):=(gB.refl _ _).setCell 1 _;refine⟨_,m,⟨l,J,K,o,A,C,B,D,F,E,u,y,x,rfl⟩,?_,?_,⟨⟨p3,ci⟩,O4.t f⟩,?_⟩;·rw[f.block _ (ae M.o) Y];exact M
    ·rw[f.block _ (ae a6.o) Y];exact a6
    ·rcases bo.o with h1|⟨i,e,h1,h2,h3,h6⟩;·exact P3 h1
     ·exact P4 ⟨i,e,h1,h2,gF.m 12 (gF.keep 12 h3 (λa h1 h2=>(f.block a (by have:=bb.o.size;omega) Y).t (bb.block a h2 Y))) (λa h1 _=>⟨Y,Y⟩),h6⟩
 case rest=>
 obtain⟨bm,t5,⟨Q,R,T,V,W,al,X,ba,ad,bc,ca,cl,cc,hA⟩,HI⟩:=hcut;injection hA with hA;subst hA;obtain⟨w5,cs⟩:∃w5,w5=wc:=⟨_,rfl⟩;subst cs;obtain⟨x5,z5,⟨⟨p5,h5⟩,o5⟩,a7⟩:=HI.o;have H6:=H (Bo h5 {data:=#[101,110,100,111,98,106]} cO);rw[show bl {data:=#[101,110,100,111,98,106]}=[101,110,100,111,98,106]from rfl,Bk]at H6;have bd:=H x5;have b7:=H z5;have cj:=H o5;have br:=H a7;have ct:=ae x5;clear x5 z5 h5 o5 a7 HI HG bq M a6 bs bx a4 a5 bb O3 O4;go_wp2_with fail;go_call H6.o as g w6 ⟨rfl,k6⟩;have co:=H ((k6.2.block _ ct Y).t bd);have b8:=H ((k6.2.block _ (ae b7) Y).t b7);obtain⟨⟨s0,s1,cu,s3,s4,s5,s6⟩,_⟩:=nD co;obtain⟨⟨c0,c1,c2,c3,c4,c5,c6⟩,f0,f1,f2,f3,f4,f5,f6⟩:=sF b8;have a9:=H k6;clear k6 H6;go_wp2;have f:=lX w6 w.heap.size (I U Q) (I U R) (I U T) (MV V) (Z W al X) (Z ba ad bc) (Z ca cl cc);have e7:=pq b8 (I U Q) (I U R) (I U T) (MV V) (Z W al X) (Z ba ad bc) (Z ca cl cc);have c8:=a9.o.2.size;refine av (v:=N1 #[I U Q,I U R,I U T,MV V,Z W al X,Z ba ad bc,Z ca cl cc]) ?_ rfl ?_;·exact aE results128 _ _ w.heap.size 67 _ _ _ rfl e7 aK rfl aG
 ·have k:=cj.o.t a9.2;obtain⟨q6,h6⟩:=a9.o.1;refine⟨_,_,rfl,⟨_,_,_,_,_,_,_,_,_,_,_,_,_,rfl⟩,⟨⟨q6,h6.onlyS f Y⟩,f.os.t k.os,f.tape.t k.tape,f.output.t k.output,aA k.size f.size,λa h1 h2=>(f.block a (by have:=k.size;omega) Y).t (k.block a h1 h2)⟩,?_⟩;rcases br.o with⟨h1,h2⟩|⟨i,e,h1,h2,h3,h8⟩;·exact P3 ⟨by rw[h1];rfl,b5 h2⟩
  ·have bi:=b6.o i e h1;rw[h2];simp only[Option.bind_some];cases ht:gg [101,110,100,111,98,106] e with
   |none=>rw[ht]at bi;exact P3 ⟨rfl,P3 bi⟩
   |some cv=>rw[ht]at bi;exact P4 ⟨i,cv,bi,rfl,gF.m 12 (gF.keep 12 h3 (λa h1 h2=>(f.block a Y Y).t (a9.2.block a h2 Y))) (λa h1 _=>Y),h8⟩
end
def j_:(k:Nat)->VT k->Nat
 |0,_=>1
 |k+1,V=>1+((gk.items (α:=VT k) V).map (j_ k)).sum
def ly(a:Nat):(k:Nat)->VT k->Bool
 |0,_=>PV
 |k+1,V=> !(decide (gk.kind (α:=VT k) V=8/\1<12-k)) && !(decide (gk.kind (α:=VT k) V=9/\¬(1<=gk.n (α:=VT k) V/\gk.n (α:=VT k) V<=(a:Int))))&&j9 (α:=VT k) V&&kA (α:=VT k) V&&(gk.items (α:=VT k) V).all (ly a k)
def zh:∀(k:Nat) (a:VT k),1<=j_ k a
 |0,_=>ag _
 |k+1,a=>by unfold j_;omega
def uz{k:Nat}:∀a:List (VT k),G a<=(a.map (j_ k)).sum
 | []=>eA
 |b::a=>by have:=uz a;have:=zh k b;simp only[bF,eF,aj];omega
def uV(d:Nat):∀(k:Nat) (c:List (VT k)) (e:Nat),e<=2000 ->kg d k e c=if(c.all (ly d k))=PV/\e+(c.map (j_ k)).sum<=2000+G c then O (e+(c.map (j_ k)).sum-G c)else N
 |0,c,e,j=>by
  have h1:(c.map (j_ 0)).sum=G c:=by
   induction c with
   |nil=>rfl
   |cons g c r=>simp only[bF,eF,aj,r];unfold j_;omega
  have h2:c.all (ly d 0)=PV:=by rw[cN];intro u _;rfl
  rw[h1,h2,ai ⟨rfl,Y⟩];unfold kg;congr 1;omega
 |k+1,[],e,j=>by unfold kg;simp only[List.all_nil,dY,List.sum_nil,aI];rw[ai ⟨trivial,Y⟩];rfl
 |k+1,a::c,e,j=>by
  have q:kg d (k+1) e (a::c)=(if lz (α:=VT k) d (12-k) e a=PV then kg d k (e+(gk.items (α:=VT k) a).length) (gk.items (α:=VT k) a)else N).bind λl=>kg d (k+1) l c:=rfl;rw[q];have o:j_ (k+1) a=1+((gk.items (α:=VT k) a).map (j_ k)).sum:=rfl;have p:ly d (k+1) a=(!(decide (gk.kind (α:=VT k) a=8/\1<12-k)) && !(decide (gk.kind (α:=VT k) a=9/\¬(1<=gk.n (α:=VT k) a/\gk.n (α:=VT k) a<=(d:Int))))&&j9 (α:=VT k) a&&kA (α:=VT k) a&&(gk.items (α:=VT k) a).all (ly d k)):=rfl;have h1:lz (α:=VT k) d (12-k) e a=(decide (e+(gk.items (α:=VT k) a).length<=2000)&&(!(decide (gk.kind (α:=VT k) a=8/\1<12-k)) && !(decide (gk.kind (α:=VT k) a=9/\¬(1<=gk.n (α:=VT k) a/\gk.n (α:=VT k) a<=(d:Int))))&&j9 (α:=VT k) a&&kA (α:=VT k) a)):=by unfold lz;simp only[Bool.and_assoc]
  rw[cZ,p,h1,bF,eF,o,aj];generalize (!(decide (gk.kind (α:=VT k) a=8/\1<12-k)) && !(decide (gk.kind (α:=VT k) a=9/\¬(1<=gk.n (α:=VT k) a/\gk.n (α:=VT k) a<=(d:Int))))&&j9 (α:=VT k) a&&kA (α:=VT k) a)=m;have s:=uz (gk.items (α:=VT k) a);have t:=uz c;cases m with
  |false=>simp
  |true=>
   by_cases h2:e+(gk.items (α:=VT k) a).length<=2000
   ·rw[aB h2,Bool.and_true,ai rfl,uV d k _ _ h2,bX];cases h3:(gk.items (α:=VT k) a).all (ly d k)with
    |false=>simp
    |true=>
     generalize ((gk.items (α:=VT k) a).map (j_ k)).sum=g at *;generalize (gk.items (α:=VT k) a).length=b at *;by_cases i:e+b+g<=2000+b
     ·rw[ai ⟨rfl,i⟩,Option.bind_some,uV d (k+1) c _ Y];rw[bX];by_cases f:(c.all (ly d (k+1)))=PV/\e+(1+g+(c.map (j_ (k+1))).sum)<=2000+(G c+1);·rw[ai f,ai ⟨f.1,Y⟩];congr 1;omega
      ·rw[ah f,ah (λh=>f ⟨h.1,Y⟩)]
     ·rw[ah (λh=>i h.2),ah (λh=>i Y)];rfl
   ·rw[ar h2,Bool.false_and,ah eA,ah (λh=>h2 Y)];rfl
def qL(a:List (VT 12))(b:Int):jb a b=(decide (1<=G a/\G a<=100)&&decide (1<=b/\b<=(G a:Int))&&decide ((a[(b-1).toNat]?).map (λc:VT 12=>gk.kind (α:=VT 11) c)=O 7)&&(a.all (ly (G a) 12)&&decide ((a.map (j_ 12)).sum<=2000))):=by
 unfold jb;by_cases h:G a<=100
 ·rw[uV _ _ _ _ Y];congr 1;by_cases h2:(a.all (ly (G a) 12))=PV/\G a+(a.map (j_ 12)).sum<=2000+G a;·rw[ai h2,h2.1,aB Y];rfl
  ·rw[ah h2];cases h3:a.all (ly (G a) 12)with
   |false=>rfl
   |true=>rw[ar (λd=>h2 ⟨h3,Y⟩)];rfl
 ·rw[ar (λh2=>h h2.2)];rfl
section
def zQ{f:Nat}{b:VT 12}(h:ly f 12 b=PV):(gk.filters (α:=VT 11) b).length<=4:=by
 unfold ly at h;simp only[bN]at h;obtain⟨⟨⟨_,c⟩,a⟩,_⟩:=h;unfold j9 at c;simp only[bN]at c;have e:=c.2;by_cases d:gk.kind (α:=VT 11) b=8
 ·unfold kA at a;rw[d]at a;simp only[j5,bN,bT]at a;exact a.1.1.2
 ·rw[ar d,Bool.false_or,bT]at e;rw[e];exact aH _
def qB{b:List (VT 12)}{d:Int}{V:VT 12}(c:V∈b)(h:4<(gk.filters (α:=VT 11) V).length):jb b d=P2:=by rw[Bool.eq_false_iff];intro a;rw[qL]at a;simp only[bN,cN]at a;have:=zQ (a.2.1 V c);omega
def sh{a:List (VT 12)}{c:Int}(h:100<G a):jb a c=P2:=by rw[Bool.eq_false_iff];intro b;unfold jb at b;simp only[bN,bT]at b;omega
def LH(a:Nat):∀c∈gE a,c<=57:=by
 induction a using Nat.strongRecOn with
 |ind a d=>
  by_cases h:a<10
  ·intro c b;rw[Cm h]at b;simp at b;omega
  ·intro c b;rw[dg h]at b;rcases bG.1 b with h1|h1;·exact d (a/10) Y c h1
   ·exact d (a%10) Y c h1
def nw(c:List Nat):Prop:=∀b a,gT c=O (b,a)->jb (b.map Prod.fst) a=P2
def nw.of_none{a:List Nat}(h:gT a=N):nw a:=λd c b=>by rw[h]at b;cases b
def Pg(a:List Nat)(c:List (VT 12×List Nat))(f r:List Nat):Prop:=G f=G c/\∃b e,f_ [37,80,68,70,45,49,46,52,10] a=O b/\G r+2<=e /\
 g_ (G a) (G b+2) 0 (f9 b)=(g_ (G a) e (G c) (f9 r)).map λd=>((c++d.1.1,f++d.1.2),d.2)
def Pg.start{b a:List Nat}(h:f_ [37,80,68,70,45,49,46,52,10] b=O a):Pg b [] [] a:=by refine⟨rfl,a,G a+2,h,ag _,?_⟩;cases g_ (G b) (G a+2) ([]:List (VT 12×List Nat)).length (f9 a)<;>rfl
def Pk{a:List Nat}(h:f_ [37,80,68,70,45,49,46,52,10] a=N):nw a:=.of_none (by unfold gT;rw[h])
section
variable{a:List Nat}{c:List (VT 12×List Nat)}{d r:List Nat}
def Pg.doc(h:Pg a c d r):∃e,G r+2<=e/\gT a=match g_ (G a) e (G c) (f9 r)with
  |none=>N
  |some b=>match jX (c++b.1.1).length (d++b.1.2) b.2 with
   |none=>N
   |some g=>match lG (c++b.1.1).length g with
    |none=>N
    |some f=>match lJ (G a-b.2.length) f.2 with
     |none=>N
     |some _=>O (c++b.1.1,f.1):=by
 obtain⟨_,i,e,h1,h2,h3⟩:=h;refine⟨e,h2,?_⟩;unfold gT;rw[h1];simp only[];rw[h3];cases g_ (G a) e (G c) (f9 r)<;>rfl
def xw{b:List Nat}(h:b.takeWhile pB=[120,114,101,102]):f_ [120,114,101,102] b=O (b.dropWhile pB)/\([120,114,101,102]:List Nat).isPrefixOf b=PV:=by
 have h1:b=[120,114,101,102]++b.dropWhile pB:=by rw[<-h];exact(List.takeWhile_append_dropWhile).s
 generalize b.dropWhile pB=e at *;subst h1;exact⟨rfl,rfl⟩
def xp{e:List Nat}{f:List Nat}(h:f_ [120,114,101,102,10] e=O f):e.takeWhile pB=[120,114,101,102]:=by
 have:=(gD h).2;unfold f_ at h;split at h
 ·next b=>
  rw[Br]at b;have b:=of_decide_eq_true b;have h1:e=[120,114,101,102,10]++f:=by rw[<-this,<-b.2];simp only[ay];rw[b_ b.1];exact(dd _ _).s
  rw[h1];rfl
 ·cases h
def Pg.table(h:Pg a c d r)(f:gn (f9 r)=[120,114,101,102]):gT a=(tS (G c) (G a-(f9 r).length) (lP (mO::d.map lW) ((O (gm (f9 r))).bind (f_ ([10,48,32]++gE (G d+1)++[10]))))).map λm=>(c,m):=by
 obtain⟨e,n,j⟩:=h.doc;unfold gn at f;rw[jq]at f;obtain⟨h1,h2⟩:=xw f;have k:g_ (G a) e (G c) (f9 r)=O (([],[]),f9 r):=by obtain⟨g,rfl⟩:∃g,e=g+1:=⟨e-1,Y⟩;simp only[g_];rw[ai h2]
 rw[j,k];simp only[cF];rw[h.1];have i:jX (G c) d (f9 r)=lP (mO::d.map lW) ((O (gm (f9 r))).bind (f_ ([10,48,32]++gE (G c+1)++[10]))):=by
  unfold jX gm;rw[jq,show([120,114,101,102,10,48,32]++gE (G c+1)++[10]:List Nat)=[120,114,101,102]++([10,48,32]++gE (G c+1)++[10])by simp,takes_app,h1];simp only[Option.bind_some];cases f_ ([10,48,32]++gE (G c+1)++[10]) ((f9 r).dropWhile pB)with
  |none=>rw[Fz]
  |some b=>
   show(match iH mO b with|none=>N|some b=>jM d b)=lP (d.map lW) (iH mO b);cases iH mO b with
   |none=>rw[Fz]
   |some o=>rw[Jc]
 rw[i];cases lP (mO::d.map lW) ((O (gm (f9 r))).bind (f_ ([10,48,32]++gE (G c+1)++[10])))with
 |none=>rfl
 |some b=>
  unfold tS;simp only[Option.bind_some];cases lG (G c) b with
  |none=>rfl
  |some l=>simp only[Option.bind_some];cases lJ (G a-(f9 r).length) l.2<;>rfl
def Pg.object(h:Pg a c d r)(P:gn (f9 r)≠[120,114,101,102]):(gn (f9 r)≠gE (G c+1)->nw a)/\(100<=G c->nw a)/\(tQ (pW (O (gm (f9 r))))->nw a) /\
  ∀f i,gn (f9 r)=gE (G c+1)->pW (O (gm (f9 r)))=O (f,i)->Pg a (c++[f]) (d++[G a-(f9 r).length]) i:=by
 obtain⟨v,W,x⟩:=h.doc;obtain⟨o,rfl⟩:∃o,v=o+1:=⟨v-1,Y⟩;have k:jS (G c+1) (f9 r)=if gn (f9 r)=gE (G c+1)then pW (O (gm (f9 r)))else N:=by
  unfold jS;rw[show gg (gE (G c+1)) (f9 r)=if gn (f9 r)=gE (G c+1)then O (gm (f9 r))else N from rfl];by_cases g:gn (f9 r)=gE (G c+1)
  ·rw[ai g,ai g];unfold pW;simp only[Option.bind_some];cases gg [48] (gm (f9 r))with
   |none=>rfl
   |some Q=>
    simp only[Option.bind_some];cases gg [111,98,106] Q with
    |none=>rfl
    |some R=>
     simp only[Option.bind_some];cases iY R with
     |none=>rfl
     |some f=>simp only[Option.bind_some];cases gg [101,110,100,111,98,106] f.2<;>rfl
  ·rw[ah g,ah g]
 by_cases j:([120,114,101,102]:List Nat).isPrefixOf (f9 r)=PV
 ·-- the table's word is longer
  have L:gT a=N:=by
   rw[x];simp only[g_];rw[ai j];simp only[cF];have J:jX (G c) d (f9 r)=N:=by
    unfold jX;cases y:f_ ([120,114,101,102,10,48,32]++gE (G c+1)++[10]) (f9 r)with
    |none=>rfl
    |some q=>
     exfalso;rw[show([120,114,101,102,10,48,32]++gE (G c+1)++[10]:List Nat)=[120,114,101,102,10]++([48,32]++gE (G c+1)++[10])by simp,takes_app]at y;cases D:f_ [120,114,101,102,10] (f9 r)with
     |none=>rw[D]at y;cases y
     |some u2=>apply P;unfold gn;rw[jq];exact xp D
   rw[J]
  have p:=nw.of_none L;refine⟨λ_=>p,λ_=>p,λ_=>p,λf i g=>?_⟩;exfalso;have h1:(f9 r).takeWhile pB=gE (G c+1):=by have:=g;unfold gn at this;rw[jq]at this;exact this
  rw[Br]at j;have j:=(of_decide_eq_true j).2;obtain⟨q,M⟩:∃q,f9 r=120::q:=by
   match hr:f9 r,j with
   |b::q,j=>simp at j;exact⟨q,by rw[j.1]⟩
  rw[M,cL,ai cO]at h1;have:=LH (G c+1) 120 (by rw[<-h1];simp);omega
 ·have C:g_ (G a) (o+1) (G c) (f9 r)=match jS (G c+1) (f9 r)with
    |none=>N
    |some (f,i)=>(g_ (G a) o (G c+1) (f9 i)).map λs=>((f::s.1.1,(G a-(f9 r).length)::s.1.2),s.2):=by
   simp only[g_];rw[ah j];rfl
  have u:jS (G c+1) (f9 r)=N->nw a:=λp=>.of_none (by rw[x,C,p]);have A:∀f i,jS (G c+1) (f9 r)=O (f,i)->∀m n,gT a=O (m,n)->f∈m/\G c<G m:=λf i l m n e=>by
   rw[x,C,l]at e;simp only[]at e;cases B:g_ (G a) o (G c+1) (f9 i)with
   |none=>rw[B]at e;cases e
   |some s=>
    rw[B]at e;simp only[aZ]at e;split at e;·cases e
    ·split at e;·cases e
     ·split at e;·cases e
      ·cases e;exact⟨eA,by simp only[ak,aj];omega⟩
  refine⟨λg=>u (by rw[k,ah g]),λT=>?_,λw=>?_,λf i g l=>?_⟩
  ·cases l:jS (G c+1) (f9 r)with
   |none=>exact u l
   |some E=>intro m n e;have:=(A E.1 E.2 l m n e).2;exact sh (by rw[aw];omega)
  ·by_cases g:gn (f9 r)=gE (G c+1)
   ·rw[ai g]at k;rcases w with w|⟨f,i,l,F⟩;·exact u (k.t w)
    ·intro m n e;have:=(A f i (k.t l) m n e).1;exact qB (V:=f.1) (List.mem_map_of_mem (f:=Prod.fst) this) F
   ·exact u (by rw[k,ah g])
  ·rw[ai g,l]at k;obtain⟨K,S,z,h1,h2,h3⟩:=h;have X:=nU k;have aa:=iz r;obtain⟨t,rfl⟩:∃t,z=t+1:=⟨z-1,Y⟩;refine⟨by simp[K],S,t,h1,Y,?_⟩;rw[h3];simp only[g_];rw[ah j,k];simp only[ak,aj,aI];cases g_ (G a) t (G c+0+1) (f9 i)with
   |none=>rfl
   |some s=>simp
end
end
section
variable{w b:Gr}
def MK(a:ByteArray):jo a=(decide (a.size<=60)&&decide (∀c,c<a.size->nth (bl a) c≠0)):=by
 unfold jo;congr 1;rw[bC];simp only[Bool.not_eq_true',bT,List.contains_eq_mem,bk];have i:(0:UInt8)∈a.data.toList↔(0:Nat)∈bl a:=by
  unfold bl;rw[cT];constructor;·intro h;exact⟨0,h,rfl⟩
  ·rintro⟨f,h,d⟩;have:f=0:=UInt8.toNat_inj.1 (by rw[d];rfl);rw[<-this];exact h
 rw[i];constructor
 ·intro h c e d;apply h;rw[<-d,show nth (bl a) c=(bl a)[c]'(by rw[mK];exact e)by simp[nth,show c<(bl a).length by rw[mK];exact e]];exact cq _
 ·intro h g;obtain⟨c,e,d⟩:=cK g;refine h c (by rw[<-mK];exact e) ?_;rw[show nth (bl a) c=(bl a)[c]by simp[nth,e],d]
def Dl(a:ByteArray)(t:a.size<=300000)(w:Gr):K8 Qe 119 #[MV a] w λq b=>q=Ps (OV (jo a))/\b=w:=by
 rw[MK]
 go_in
 go_wp2;go_loopw [3] (λi wr=>∃d:Nat,d<=a.size/\i=I U (d:Nat)/\wr=w/\L1 (∀c,c<d->nth (bl a) c≠0)) (λi _=>a.size-(intOf i).toNat)
 case atStart=>exact⟨0,Y,rfl,rfl,λc l=>absurd l (Nat.not_lt_zero _)⟩
 case round=>
  obtain⟨d,r,rfl,rfl,j⟩:=hrel;rcases aV r with k|g
  ·have e:L1 (decide (∀c,c<a.size->nth (bl a) c≠0)=PV):=by unfold Hid;rw[cm];rw[<-k];exact j
   have p:¬(d:Int)<a.size:=Y;have m:L1 (decide ((a.size:Int)<=60)=decide (a.size<=60)):=by unfold Hid;rw[cJ];omega
   clear k;go_wp2;go_ret;rw[e.o,Bool.and_true];exact⟨by rw[<-m.o];rfl,rfl⟩
  ·have p:(d:Int)<a.size:=Y;have v:=s8 a d g;have u:=lN a d g;cases f:((nth (bl a) d:Int)==0)with
   |true=>
    have e:L1 (decide (∀c,c<a.size->nth (bl a) c≠0)=P2):=by unfold Hid;rw[bk];intro h;exact h d g (by simp at f;omega)
    go_wp2;go_ret;rw[e.o,Bool.and_false];exact⟨rfl,rfl⟩
   |false=>
    have n:L1 (∀c,c<d+1->nth (bl a) c≠0):=λc l=>by
     by_cases h:c<d;·exact j c h
     ·have:c=d:=Y;subst this;intro s;simp at f;exact f (by rw[s])
    go_wp2;go_roundw
    case rel=>exact⟨d+1,Y,rfl,trivial,n⟩
    case measure=>simp[intOf];omega
def q_(w:Gr)(d:Option L2)(c:List (List Nat)):Prop:=∀a,a<G c->∃g,d=O ⟨g,0,N⟩/\w.cell? ⟨g,a,N⟩=O (MV (ge (c.getD a [])))
def q_.of{P:Nat->Prop}{i:Option L2}{k:Nat}{a:List (List Nat)}(h:jz P w 9 1 (Z i (G a) k) (G a) (a.map λl=>MV (ge l))):q_ w i a:=by intro f d;obtain⟨g,c,j,m⟩:=uH h.1 Y;cases j;refine⟨g,rfl,?_⟩;have e:=h.1.cells (g:=g) rfl f (MV (ge (a.getD f []))) (by rw[aY,af d];simp[ax,af d]);rw[pR]at e;exact e
def vT(c:List (List Nat))(d:Nat):Prop:=(∀a,a<d->jo (ge (c.getD a []))=PV)/\∀a k,k<a->a<d->ge (c.getD k [])≠ge (c.getD a [])
def Bf{c:List (List Nat)}{a:Nat}(h:a<G c):c.getD a []=c[a]:=by rw[ax,af h];rfl
def LA{c:List (List Nat)}{f:Nat}(h:vT c (G c)):jt c f=decide (G c=f):=by
 unfold jt;have h1:(c.all λg=>jo (ge g))=PV:=by rw[cN];intro g j;obtain⟨d,a,rfl⟩:=cK j;have:=h.1 d a;rw[Bf a]at this;exact this
 have h2:(c.map ge).Nodup:=by rw[List.nodup_iff_pairwise_ne,List.pairwise_iff_getElem];intro k d e a i;rw[aw]at e a;have:=h.2 d k i a;rw[Bf e,Bf a]at this;simpa using this
 rw[h1,aB h2];simp
def Lz{a:List (List Nat)}{e c:Nat}(d:c<G a)(h:jo (ge (a.getD c []))=P2):jt a e=P2:=by
 unfold jt;have h1:(a.all λf=>jo (ge f))=P2:=by rw[List.all_eq_false];exact⟨a[c],cq d,by rw[Bf d]at h;simp[h]⟩
 rw[h1];simp
def Ly{a:List (List Nat)}{g c k:Nat}(d:c<G a)(e:k<c)(h:ge (a.getD k [])=ge (a.getD c [])):jt a g=P2:=by
 unfold jt;have h2:¬(a.map ge).Nodup:=by rw[List.nodup_iff_pairwise_ne,List.pairwise_iff_getElem];intro f;have:=f k c (by rw[aw];omega) (by rw[aw];exact d) e;rw[Bf d,Bf (show k<G a by omega)]at h;exact this oT
 rw[ar h2];simp
def JG{ka:Option L2}{kc u:Nat}{d:List (List Nat)}(h:q_ w ka d)(hl:G d<=200001)(hn:u<=200001)(hs:∀a,a<G d->(ge (d.getD a [])).size<=300000):K8 Qe 120 #[Z ka (G d) kc,I U (u:Nat)] w λs b=>s=Ps (OV (jt d u))/\∃j,b=w.drewN j:=by
 obtain⟨r,F⟩:∃r,jt d u=r:=⟨_,rfl⟩;rw[F];have B:=H F;obtain⟨e,M⟩:∃e,G d=e:=⟨_,rfl⟩;have g:=H M;rw[M]at hl ⊢;have V:=H h;have HS:=H hs;clear F M h hs
 go_in
 go_wp2;go_loopw [5] (λQ wr=>∃a j:Nat,a<=e/\Q=I U (a:Nat)/\wr=w.drewN j/\L1 (vT d a)) (λQ _=>e-(intOf Q).toNat)
 case atStart=>exact⟨0,0,Y,rfl,rfl,⟨λc f=>absurd f (Nat.not_lt_zero _),λc k x f=>absurd f (Nat.not_lt_zero _)⟩⟩
 case round=>
  obtain⟨a,j,hi,rfl,y,A⟩:=hrel;have C:=H y;rcases aV hi with aa|t
  ·have ao:¬(a:Int)<(e:Int):=Y;have n:L1 (r=((e:Int)==(u:Int))):=by unfold Hid;rw[<-B.o,LA (by rw[g.o,<-aa];exact A.o),g.o,bC,cm,beq_iff_eq];omega
   clear aa y;go_wp2;go_ret;rw[n.o];exact⟨rfl,j,C⟩
  ·have ao:(a:Int)<(e:Int):=Y;obtain⟨X,rfl,hc⟩:=V.o a BX;have a1:wr.cell? ⟨X,a,N⟩=O (MV (ge (d.getD a []))):=by rw[y];exact hc
   have p:=H (Dl (ge (d.getD a [])) (HS a BX));obtain⟨l,J⟩:∃l,ge (d.getD a [])=l:=⟨_,rfl⟩;rw[J]at a1 p;have q:=H J;clear hc J y;cases m:jo l with
   |false=>
    rw[m]at p;have n:L1 (r=P2):=by unfold Hid;rw[<-B.o];exact Lz BX (by rw[q.o];exact m)
    clear m;go_wp2_with fail;go_call (p _) as s w1 ⟨rfl,i⟩;have i:=i.s;subst i;go_wp2;go_ret;rw[n.o];exact⟨rfl,j,C⟩
   |true=>
    rw[m]at p;have al:=H m;clear m;go_wp2_with fail;go_call (p _) as s w1 ⟨rfl,i⟩;have i:=i.s;subst i;go_wp2_with fail;go_loopw [7] (λR wx=>∃k z:Nat,k<=a/\R=I U (k:Nat)/\wx=w.drewN z/\L1 (∀c,c<k->ge (d.getD c [])≠l)) (λR _=>a-(intOf R).toNat)
    case atStart=>exact⟨0,j,Y,rfl,C,λc f=>absurd f (Nat.not_lt_zero _)⟩
    case round=>
     obtain⟨k,z,x,rfl,P,T⟩:=hrel;have D:=H P;have S:L1 (∀k,k<e->wr.cell? ⟨X,k,N⟩=O (MV (ge (d.getD k [])))):=λk x=>by obtain⟨g',s,a0⟩:=V.o k (by rw[g.o];exact x);cases s;rw[P];exact a0
     clear P;rcases aV x with L|L
     ·have d2:¬(k:Int)<(a:Int):=Y;have ac:L1 (vT d (a+1)):=by
       refine⟨λc f=>?_,λc k2 a2 f=>?_⟩
       ·by_cases h:c<a;·exact A.1 c h
        ·have:c=a:=Y;rw[this,q.o];exact al
       ·by_cases h:c<a;·exact A.2 c k2 a2 h
        ·have:c=a:=Y;subst this;rw[q.o];exact T k2 Y
      clear L;go_wp2;go_roundw
      case rel=>exact⟨a+1,z,Y,rfl,D,ac⟩
      case measure=>simp[intOf];omega
     ·have d2:(k:Int)<(a:Int):=Y;have d3:(k:Int)<(e:Int):=Y;have q1:=S.o k Y;have q2:=S.o a t;rw[q.o]at q2;obtain⟨E,K⟩:∃E,ge (d.getD k [])=E:=⟨_,rfl⟩;rw[K]at q1;have W:=H K;clear K;cases v:(E.toList==l.toList)with
      |true=>
       have n:L1 (r=P2):=by unfold Hid;rw[<-B.o];refine Ly BX L ?_;rw[W.o,q.o];rw[ng]at v;simpa using v
       go_wp2_with fail;go_quiet (fail);go_wp2;go_ret;rw[n.o];exact⟨rfl,_,by rw[D.o,World.drewN_drewN]⟩
      |false=>
       have ad:L1 (∀c,c<k+1->ge (d.getD c [])≠l):=λc f=>by
        by_cases h:c<k;·exact T c h
        ·have:c=k:=Y;subst this;rw[W.o];rw[ng]at v;simpa using v
       go_wp2_with fail;go_quiet (fail);go_wp2;go_roundw
       case rel=>exact⟨k+1,z+nq,Y,rfl,by rw[D.o,World.drewN_drewN],ad⟩
       case measure=>simp[intOf];omega
def NG(a:Int)(pl:Nat)(l : -9223372036854775808<=a)(m:a<=9223372036854775807)(n:pl<=1000000)(w:Gr):K8 Qe 118 #[I U a,I U (pl:Nat)] w λh b=>h=Ps (OV (ke a pl))/\b=w:=by
 obtain⟨d,g⟩:∃d,ke a pl=d:=⟨_,rfl⟩;rw[g];unfold ke at g;have e:=H g;clear g;by_cases h1:pl<=5
 ·have t1:decide ((pl:Int)<=5)=PV:=eB;by_cases h2 : -999999999<=a
  ·have i:decide (-999999999<=a)=PV:=eB;by_cases h3:a<=999999999
   ·have j:decide (a<=999999999)=PV:=eB;by_cases f:pl=0
    ·have k:((pl:Int)==0)=PV:=eB;have c:L1 (d=PV):=by unfold Hid;rw[<-e.o];simp[f,h2,h3]
     clear f
     go_in
     go_wp2;go_ret;rw[c.o];exact⟨rfl,rfl⟩
    ·have k:((pl:Int)==0)=P2:=eB;have c:L1 (d=(a.tmod 10 != 0)):=by unfold Hid;rw[<-e.o];simp only[ar f,aB h1,aB (show -999999999<=a/\a<=999999999 from⟨h2,h3⟩),Bool.false_or,Bool.and_true];rw[bC];simp
     clear f
     go_in
     go_wp2;all_goals (
      go_ret;rw[c.o];refine⟨?_,rfl⟩;first|rfl|(simp;done)|(simp_all;done))
   ·have j:decide (a<=999999999)=P2:=eB;have c:L1 (d=P2):=by unfold Hid;rw[<-e.o];simp[h3]
    go_in
    go_wp2;go_ret;rw[c.o];exact⟨rfl,rfl⟩
  ·have i:decide (-999999999<=a)=P2:=eB;have c:L1 (d=P2):=by unfold Hid;rw[<-e.o];simp[h2]
   go_in
   go_wp2;go_ret;rw[c.o];exact⟨rfl,rfl⟩
 ·have t1:decide ((pl:Int)<=5)=P2:=eB;have c:L1 (d=P2):=by unfold Hid;rw[<-e.o];simp[h1]
  go_in
  go_wp2;go_ret;rw[c.o];exact⟨rfl,rfl⟩
def BC(a:Nat):Array GI:=#[OV (decide (a=1\/a=2\/a=9\/a=3)),OV (decide (a=3)),OV (decide (a=4\/a=5\/a=8)),OV (decide (a=6\/a=7\/a=8)),OV (decide (a=7\/a=8)),OV (decide (a=8))]
def Gq(a:Nat)(n:a<=100000)(w:Gr):K8 Qe 165 #[I U (a:Nat)] w λe b=>e=Ps (N1 (BC a))/\LT w.heap.size w b:=by
 have d:∀(c:Array GI),LT w.heap.size w (w.alloc (Pp c 169)):=λc=>(aq _ _).alloc (ag _) _;rcases(show a=0\/a=1\/a=2\/a=3\/a=4\/a=5\/a=6\/a=7\/a=8\/a=9\/10<=a by omega)with rfl|rfl|rfl|rfl|rfl|rfl|rfl|rfl|rfl|rfl|h
 rotate_right
 ·have e0:((a:Int)==0)=P2:=eB;have e1:((a:Int)==1)=P2:=eB;have e2:((a:Int)==2)=P2:=eB;have g:((a:Int)==3)=P2:=eB;have e4:((a:Int)==4)=P2:=eB;have i:((a:Int)==5)=P2:=eB;have j:((a:Int)==6)=P2:=eB;have k:((a:Int)==7)=P2:=eB;have l:((a:Int)==8)=P2:=eB;have m:((a:Int)==9)=P2:=eB;have f:BC a=#[OV P2,OV P2,OV P2,OV P2,OV P2,OV P2]:=by unfold BC;simp;omega
  go_in
  go_wp2;exact av (v:=N1 (BC a)) (by rw[f];exact aE results165 _ _ w.heap.size 169 _ _ _ rfl (heap_alloc_new w _) underlying169 rfl aG) rfl ⟨rfl,d _⟩
 all_goals
  go_in
  go_wp2;exact av (v:=N1 (BC _)) (aE results165 _ _ w.heap.size 169 _ _ _ rfl (heap_alloc_new w _) underlying169 rfl aG) rfl ⟨rfl,d _⟩
end
