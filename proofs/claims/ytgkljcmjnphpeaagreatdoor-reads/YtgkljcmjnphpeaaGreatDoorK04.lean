import Derived.Test.YtgkljcmjnphpeaaGreatDoorK03
import Derived.Lib.ItoaNum
set_option linter.defProp false
set_option linter.unusedVariables false
set_option linter.unusedSimpArgs false
set_option maxHeartbeats 8000000
set_option maxRecDepth 100000
open List renaming length->G
open Go renaming Value->GI,World->Gr,Calls->K8,Addr->L2,Ending->MB,Act->MN
open Go.Value renaming int->I,pointer->M2,string->MV,agg->N1,bool->OV,tuple->OW,slice->Z
open Go.RowKit renaming Hid->L1,Below->LT
open Option renaming none->N,some->O
open Bool renaming false->P2,true->PV
open Or renaming inl->P3,inr->P4
open Go.Obj renaming cells->Pp
open Go.Ending renaming returned->Ps
open Go.Proofs.Tryz renaming prog->Qe
open Go.IntKind renaming i64->U
open Go.Proofs.Tryz
namespace Go.Proofs.YtgkljcmjnphpeaaGreatDoor
open Go.RowKit
section
variable{w w':Gr}
def nQ(w:Gr)(c:Nat)(a:List Nat)(b:GI):Prop:=(a=[]/\b=Z N 0 0)\/qI w c a b
def nQ.keep{a:Nat}{l:List Nat}{p:GI}(h:nQ w a l p)(g:∀b,b<a->w'.heap[b]?=w.heap[b]?):nQ w' a l p:=by
 rcases h with h|⟨d,k,c,e,h1,h2,h3,f⟩;·exact P3 h
 ·exact P4 ⟨d,k,c,e,h1,h2,h3,λi j=>tZ (f i j) (g d h1)⟩
structure Fi(f:Gr)(B bs:Nat)(ao:Option L2)(cap:Nat)(d:List Nat)(w:Gr)(q:List Nat)(s r m:GI)(u:List GI)(Vs:List (VT 12))(t:List GI)(z:List (List Nat))(k:List Nat):Prop where
 sc:Sc B bs ao cap d s r m w q
 only:gB bs f w
 lt:bs<f.heap.size
 oo:w.ownsRow f.heap.size 67 7 s (G u) (u.flatMap cellsOf)
 op:w.ownsRow f.heap.size 23 1 r (G t) t
 ol:w.ownsRow f.heap.size 3 1 m (G k) (k.map λn:Nat=>I U n)
 len:G u=G Vs
 ch:∀(i:Nat) (x:GI) (y:VT 12),u[i]?=O x->Vs[i]?=O y->gF (λg=>f.heap.size<=g/\s.ownBlock≠O g/\r.ownBlock≠O g/\m.ownBlock≠O g) 12 w x y
 plen:G t=G z
 pk:∀(i:Nat) (p:GI) (l:List Nat),t[i]?=O p->z[i]?=O l->nQ w B l p
variable{f:Gr}{B bs cap:Nat}{ao:Option L2}{d q:List Nat}{s r m:GI}{u:List GI}{Vs:List (VT 12)}{t:List GI}{z:List (List Nat)}{k:List Nat}
def Fi.step(h:Fi f B bs ao cap d w q s r m u Vs t z k){q':List Nat}(n:Sc B bs ao cap d s r m w' q')(a:gB bs w w'):Fi f B bs ao cap d w' q' s r m u Vs t z k:=by
 have c:=h.lt;have C:=h.sc.hb;have D:=h.only.size;refine⟨n,h.only.t a,h.lt,uf h.oo a c,uf h.op a c,uf h.ol a c,h.len,λe A y o p=>?_,h.plen,λe x v l j=>?_⟩;·exact gF.keep 12 (h.ch e A y o p) (λb g i=>a.block b i Y)
 ·exact(h.pk e x v l j).keep (λb g=>a.block b Y Y)
def Fi.below(h:Fi f B bs ao cap d w q s r m u Vs t z k)(b:LT w.heap.size w w'):Fi f B bs ao cap d w' q s r m u Vs t z k:=
 h.step (h.sc.other b) (.of_below b)
def Fi.drew(h:Fi f B bs ao cap d w q s r m u Vs t z k):Fi f B bs ao cap d w.drew q s r m u Vs t z k:=h.below (aq _ _).drew
def Fi.alloc(h:Fi f B bs ao cap d w q s r m u Vs t z k)(a:Obj):Fi f B bs ao cap d (w.alloc a) q s r m u Vs t z k:=h.below ((aq _ _).alloc (ag _) a)
def zR{w:Gr}{b i a e x y p v:Nat}{c g:GI}{A C:List GI}(h:w.ownsRow b a x c p A)(l:w.ownsRow i e y g v C)(o:a≠e):c.ownBlock=N\/c.ownBlock≠g.ownBlock:=by
 cases n:c.ownBlock with
 |none=>exact P3 rfl
 |some j=>exact P4 (λa=>xT h l o j n a.s)
def Fi.place(h:Fi f B bs ao cap d w q s r m u Vs t z k){i:Nat}{e:GI}
  (C:w'.ownsRow f.heap.size 3 1 e (G k+1) ((k.map λP:Nat=>I U P)++[I U i])) (c:w.grownBy w' m.ownBlock) (J:∀b,e.ownBlock=O b->m.ownBlock=O b\/w.heap.size<=b):Fi f B bs ao cap d (w'.setCell ⟨bs,4,N⟩ e) q s r e u Vs t z (k++[i]):=by
 have S:=h.lt;have T:=h.only.size;have R:=h.sc.hb;have E:=ae h.sc.blk;have o:=h.ol.lt;have p:∀b,b<w.heap.size->m.ownBlock≠O b->b≠bs->(w'.setCell ⟨bs,4,N⟩ e).heap[b]?=w.heap[b]?:=λb h1 h2 h3=>by rw[kW _ h3,c.block b h1 (λg=>h2 g.s)]
 have j:∀b,b<f.heap.size->b≠bs->(w'.setCell ⟨bs,4,N⟩ e).heap[b]?=w.heap[b]?:=λb h1 h2=>p b Y (λg=>by have:=o b g;omega) h2;have F:w'.heap[bs]?=O (Pp #[Z ao (G d) cap,I U (G d-G q:Nat),s,r,m] 131 (0,0)):=by rw[c.block _ E (λg=>by have:=o _ g.s;omega)];exact h.sc.blk
 refine⟨⟨h.sc.hb,by rw[lV _ F];rfl,h.sc.dat.other (λb c=>j b Y Y),h.sc.byt,h.sc.len,h.sc.lc,h.sc.le,h.sc.suf,h.sc.ad⟩,?_,h.lt,?_,?_,?_,h.len,?_,?_,?_⟩;·exact⟨c.os.t h.only.os,c.tape.t h.only.tape,c.output.t h.only.output,by have:=c.size;simp[World.setCell];omega,λb h1 h2=>(j b h1 h2).t (h.only.block b h1 h2)⟩
 ·have:=h.oo.kept c (zR h.oo h.ol cO);exact dt this sk e
 ·have:=h.op.kept c (zR h.op h.ol cO);exact dt this sk e
 ·have:=dt C (a:=⟨bs,4,N⟩) sk e;simpa using this
 ·intro l v x K L;have Q:gF (λb=>(f.heap.size<=b/\s.ownBlock≠O b/\r.ownBlock≠O b/\m.ownBlock≠O b)/\e.ownBlock≠O b) 12 w v x:=by
   refine gF.m 12 (h.ch l v x K L) (λb h1 h2=>⟨h1,λg=>?_⟩);rcases J b g with n|n;·exact h1.2.2.2 n
   ·omega
  exact gF.m 12 (gF.keep 12 Q (λb c y=>p b y c.1.2.2.2 Y)) (λb c _=>⟨c.1.1,c.1.2.1,c.1.2.2.1,c.2⟩)
 ·exact h.plen
 ·exact λl i M D A=>(h.pk l i M D A).keep (λb c=>j b Y Y)
def Fi.pack(h:Fi f B bs ao cap d w q s r m u Vs t z k){p:GI}{x:List Nat}{g:GI}(P:nQ w B x p)
  (M:w'.ownsRow f.heap.size 23 1 g (G t+1) (t++[p])) (e:w.grownBy w' r.ownBlock) (S:∀b,g.ownBlock=O b->r.ownBlock=O b\/w.heap.size<=b):Fi f B bs ao cap d (w'.setCell ⟨bs,3,N⟩ g) q s g m u Vs (t++[p]) (z++[x]) k:=by
 have aa:=h.lt;have ac:=h.only.size;have X:=h.sc.hb;have Q:=ae h.sc.blk;have A:=h.op.lt;have C:∀b,b<w.heap.size->r.ownBlock≠O b->b≠bs->(w'.setCell ⟨bs,3,N⟩ g).heap[b]?=w.heap[b]?:=λb h1 h2 h3=>by rw[kW _ h3,e.block b h1 (λi=>h2 i.s)]
 have n:∀b,b<f.heap.size->b≠bs->(w'.setCell ⟨bs,3,N⟩ g).heap[b]?=w.heap[b]?:=λb h1 h2=>C b Y (λi=>by have:=A b i;omega) h2;have R:w'.heap[bs]?=O (Pp #[Z ao (G d) cap,I U (G d-G q:Nat),s,r,m] 131 (0,0)):=by rw[e.block _ Q (λi=>by have:=A _ i.s;omega)];exact h.sc.blk
 refine⟨⟨h.sc.hb,by rw[lV _ R];rfl,h.sc.dat.other (λb e=>n b Y Y),h.sc.byt,h.sc.len,h.sc.lc,h.sc.le,h.sc.suf,h.sc.ad⟩,?_,h.lt,?_,?_,?_,h.len,?_,?_,?_⟩;·exact⟨e.os.t h.only.os,e.tape.t h.only.tape,e.output.t h.only.output,by have:=e.size;simp[World.setCell];omega,λb h1 h2=>(n b h1 h2).t (h.only.block b h1 h2)⟩
 ·have:=h.oo.kept e (zR h.oo h.op cO);exact dt this sk g
 ·have:=dt M (a:=⟨bs,3,N⟩) sk g;simpa using this
 ·have:=h.ol.kept e (zR h.ol h.op cO);exact dt this sk g
 ·intro l J K T V;have W:gF (λb=>(f.heap.size<=b/\s.ownBlock≠O b/\r.ownBlock≠O b/\m.ownBlock≠O b)/\g.ownBlock≠O b) 12 w J K:=by
   refine gF.m 12 (h.ch l J K T V) (λb h1 h2=>⟨h1,λi=>?_⟩);rcases S b i with y|y;·exact h1.2.2.1 y
   ·omega
  exact gF.m 12 (gF.keep 12 W (λb e L=>C b L e.1.2.2.1 Y)) (λb e _=>⟨e.1.1,e.1.2.1,e.2,e.1.2.2.2⟩)
 ·rw[ak,ak,h.plen];rfl
 ·intro l F E o j;rcases bU l (G t) with c|c
  ·rw[aP c]at o;rw[aP (by rw[<-h.plen];exact c)]at j;exact(h.pk l F E o j).keep (λb e=>n b Y Y)
  ·rw[aF c]at o;rw[aF (by rw[<-h.plen];exact c)]at j;rw[<-h.plen]at j;obtain⟨rfl,rfl⟩:p=F/\x=E:=by
    match hj:l-G t,o,j with
    |0,v,D=>exact⟨by simpa using v,by simpa using D⟩
    |al+1,v,D=>simp at v
   exact P.keep (λb e=>n b Y Y)
def J1{i b a c:Nat}{e:List GI}{a0 a1 a2 a3 a4 a5 a6:GI}{g:List GI}(h:w.ownsRow i 67 7 (Z (O ⟨b,0,N⟩) (a+1) c) (a+1) (e++g))(x:G e=a*7)(v:G g=7):(((((((w.setCell ⟨b,a*7,N⟩ a0).setCell ⟨b,a*7+1,N⟩ a1).setCell ⟨b,a*7+2,N⟩ a2).setCell ⟨b,a*7+3,N⟩ a3).setCell ⟨b,a*7+4,N⟩ a4).setCell ⟨b,a*7+5,N⟩ a5).setCell ⟨b,a*7+6,N⟩ a6).ownsRow i 67 7 (Z (O ⟨b,0,N⟩) (a+1) c) (a+1) (e++[a0,a1,a2,a3,a4,a5,a6]):=by
 have n:=(h.stored (a*7) a0).1;have h1:=(n.stored (a*7+1) a1).1;have h2:=(h1.stored (a*7+2) a2).1;have h3:=(h2.stored (a*7+3) a3).1;have o:=(h3.stored (a*7+4) a4).1;have p:=(o.stored (a*7+5) a5).1;have j:=(p.stored (a*7+6) a6).1;have l:((((((((e++g).set (a*7) a0).set (a*7+1) a1).set (a*7+2) a2).set (a*7+3) a3).set (a*7+4) a4).set (a*7+5) a5).set (a*7+6) a6)=e++[a0,a1,a2,a3,a4,a5,a6]:=by
  match g,v with
  | [y,A,C,D,E,F,J],_=>rw[<-x];simp
 rw[l]at j;exact j
def Fi.obj(h:Fi f B bs ao cap d w q s r m u Vs t z k){v:GI}{J:VT 12}{l:GI}{w6 g:Gr}
  (hx:gF (λa=>f.heap.size<=a/\s.ownBlock≠O a/\r.ownBlock≠O a/\m.ownBlock≠O a) 12 w v J)
  (e:w.grownBy w6 s.ownBlock) (P:∀a,l.ownBlock=O a->s.ownBlock=O a\/w.heap.size<=a) (a8:∀a,l.ownBlock=O a->f.heap.size<=a)
  (a0:g.os=w6.os) (a3:g.tape=w6.tape) (a1:g.output=w6.output) (bb:g.heap.size=w6.heap.size) (al:∀a,a≠bs->l.ownBlock≠O a->g.heap[a]?=w6.heap[a]?)
  (V:g.heap[bs]?=O (Pp #[Z ao (G d) cap,I U (G d-G q:Nat),l,r,m] 131 (0,0)))
  (a2:g.ownsRow f.heap.size 67 7 l (G u+1) (u.flatMap cellsOf++cellsOf v)):Fi f B bs ao cap d g q l r m (u++[v]) (Vs++[J]) t z k:=by
 have a9:=h.lt;have ba:=h.only.size;have a7:=h.sc.hb;have aa:=h.oo.lt;have C:∀a,a<w.heap.size->s.ownBlock≠O a->a≠bs->g.heap[a]?=w.heap[a]?:=λa h1 h2 h3=>by rw[al a h3 (λb=>by rcases P a b with c|c;exact h2 c;omega),e.block a h1 (λb=>h2 b.s)]
 have A:∀a,a<f.heap.size->a≠bs->g.heap[a]?=w.heap[a]?:=λa h1 h2=>C a Y (λb=>by have:=aa a b;omega) h2;have Q:∀{b E D:Nat} {p:GI} {F:List GI},w.ownsRow f.heap.size b E p D F->b ≠ 67->g.ownsRow f.heap.size b E p D F:=λ{b E D p F} M ac=>by
  have n:=zR M h.oo ac;obtain⟨h1,h2⟩:=M;refine⟨h1,?_⟩;rcases h2 with h2|⟨a,c,S,e1,e2,L,W⟩;·exact P3 h2
  ·have T:p.ownBlock=O a:=by rw[e1];rfl
   refine P4 ⟨a,c,S,e1,e2,?_,W⟩;rw[C a (ae L) (λb=>by rw[T]at n;rcases n with n|n;cases n;exact n b.s) Y];exact L
 refine⟨⟨h.sc.hb,V,h.sc.dat.other (λa e=>A a Y Y),h.sc.byt,h.sc.len,h.sc.lc,h.sc.le,h.sc.suf,h.sc.ad⟩,?_,h.lt,?_,Q h.op cO,Q h.ol cO,by rw[ak,ak,h.len];rfl,?_,h.plen,λo a6 a4 hp hl=>(h.pk o a6 a4 hp hl).keep (λa e=>A a Y Y)⟩;·exact⟨a0.t (e.os.t h.only.os),a3.t (e.tape.t h.only.tape),a1.t (e.output.t h.only.output),by have:=e.size;omega,λa h1 h2=>(A a h1 h2).t (h.only.block a h1 h2)⟩
 ·rw[ak,dE];simpa using a2
 ·intro o x y i j;have a5:gF (λa=>(f.heap.size<=a/\s.ownBlock≠O a/\r.ownBlock≠O a/\m.ownBlock≠O a)/\l.ownBlock≠O a) 12 w x y:=by
   have R:gF (λa=>f.heap.size<=a/\s.ownBlock≠O a/\r.ownBlock≠O a/\m.ownBlock≠O a) 12 w x y:=by
    rcases bU o (G u) with c|c
    ·rw[aP c]at i;rw[aP wh]at j;exact h.ch o x y i j
    ·rw[aF c]at i;rw[aF wh]at j;rw[<-h.len]at j;obtain⟨rfl,rfl⟩:v=x/\J=y:=by
      match hj:o-G u,i,j with
      |0,i,j=>exact⟨by simpa using i,by simpa using j⟩
      |bc+1,i,j=>simp at i
     exact hx
   refine gF.m 12 R (λa h1 h2=>⟨h1,λb=>?_⟩);rcases P a b with K|K;·exact h1.2.1 K
   ·omega
  exact gF.m 12 (gF.keep 12 a5 (λa e X=>C a X e.1.2.1 Y)) (λa e _=>⟨e.1.1,e.2,e.1.2.2.1,e.1.2.2.2⟩)
end
section
variable{w w':Gr}{C:Gr}{B bs cap:Nat}{ao:Option L2}{data q:List Nat}{J M X:GI}{A:List GI}{Vs:List (VT 12)}{F:List GI}{E:List (List Nat)}{d:List Nat}
def iB:(Tryz.prog.info? 23).map (λa=>(a.zero,a.size,a.bytes))=O (O (Z N 0 0),1,24):=by kernel_rfl
def Hm(b:L2)(c:GI)(e:Array Bool)(a:Gr):Prop:=a.cell? b=O c
def yp(C:Gr)(B bs:Nat)(ao:Option L2)(cap:Nat)(data:List Nat)(w:Gr)(q:List Nat)(Vs:List (VT 12))(E:List (List Nat))(d:List Nat):Prop:=
 ∃J M X A F,Fi C B bs ao cap data w q J M X A Vs F E d
def qF(C:Gr)(B bs:Nat)(ao:Option L2)(cap:Nat)(data:List Nat)(Vs:List (VT 12))(E:List (List Nat))(d:List Nat)(e:Nat)(c:Option ((VT 12×List Nat)×List Nat))(a:MB)(w':Gr):Prop:=
 match c with
 |some (b,q)=>a=Ps (OW #[])/\yp C B bs ao cap data w' q (Vs++[b.1]) (E++[b.2]) (d++[e])
 |none=>a=gU 4/\gB bs C w'
def qF.none_{p:Nat}{a:Option ((VT 12×List Nat)×List Nat)}(h:a=N)(k:gB bs C w'):qF C B bs ao cap data Vs E d p a (gU 4) w':=by subst h;exact⟨rfl,k⟩
def Sc.c4{b c a:GI}{r:List Nat}(h:Sc B bs ao cap data b c a w r):w.cell? ⟨bs,4,N⟩=O a:=iI h.blk
def Sc.c2{a b c:GI}{r:List Nat}(h:Sc B bs ao cap data a b c w r):w.cell? ⟨bs,2,N⟩=O a:=iI h.blk
def Sc.c3{b a c:GI}{r:List Nat}(h:Sc B bs ao cap data b a c w r):w.cell? ⟨bs,3,N⟩=O a:=iI h.blk
def SO(g:Nat)(e:L2)(h:GI)(b:Nat)(f:Array GI)(c:Array Bool)(a:Gr):Prop:=(c.getD g P2=P2->a.cell? e=O h)/\a.heap[b]?=O (Pp f 67 (0,0))
def SO.set{a i b:Nat}{f:L2}{h:GI}{g:Array GI}{c:Array Bool}{e:Gr}(j:i≠a):SO a f h b g c e↔SO a f h b g (c.setIfInBounds i PV) e:=by unfold SO;rw[eE P2 j]
def yU{b:Program}{D:Array Oper}{K:List Oper}{k:Oper}{n:MN}{w:Gr}{y:Exit->MN->Gr->Prop}(aa:k.guard=N)(L P:Operand)(p:TypeId)
  (ho:k.op=.call { callee:=.builtin .append,args:=#[L,P],argTypes:=#[p,p]})
  (o:Nat) (f:TypeId) (g:TypeInfo) (x:GI) (a t:Nat) (ht:b.underlying p=O (.slice f)) (hi:b.info? f=O g) (hz:g.zero=O x)
  (a0:g.size=a) (V:g.bytes=t) (a2:x.cells.size=a) (a1:0<a)
  (l:GI) (i:Nat) (v:List GI) (hs:n.eval L=l) (al:w.ownsRow o f a l i v)
  (s:L2) (e c:Nat) (j:List GI) (hx:n.eval P=Z (O s) e c) (hl:G j=e*a) (ac:∀z r,j[z]?=O r->w.cell? (s.add z)=O r) (h1:∀r∈j,r.oneCell'=PV)
  (R:i+e<=maxLen) (W:(i+e)*t<=140737488355328) (T:o<=w.heap.size)
  (h:∀m w',w'.ownsRow o f a m (i+e) (v++j)->w.grownBy w' l.ownBlock->(∀u,m.ownBlock=O u->l.ownBlock=O u\/w.heap.size<=u)->wpList b D y K (n.put k.dst m) w'):wpList b D y (k::K) n w:=by
 refine wpList_plain aa λK' S=>?_;obtain⟨m,w',hr,h2,h3,Q⟩:=Gb (P:=b) (w:=w) o p k.type f g x a t ht hi hz a0 V a2 a1 l i v al s e c j hl ac h1 R W T;unfold Oper.wp execOp;simp only[ho,resolve,invoke,builtin,Sem.run_bind,Sem.run_pure,ft,fA,bF,dY,hs,hx,hr];exact S _ _ (h m w' h2 h3 Q)
def qF.some_{c:Nat}{b:Option ((VT 12×List Nat)×List Nat)}{a:VT 12}{l q:List Nat}(h:b=O ((a,l),q))(k:yp C B bs ao cap data w' q (Vs++[a]) (E++[l]) (d++[c])):qF C B bs ao cap data Vs E d c b (Ps (OW #[])) w':=by subst h;exact⟨rfl,k⟩
def wX(w:Gr)(b a:Nat)(a0 a1 a2 a3 a4 a5 a6:GI):gB b w (((((((w.setCell ⟨b,a,N⟩ a0).setCell ⟨b,a+1,N⟩ a1).setCell ⟨b,a+2,N⟩ a2).setCell ⟨b,a+3,N⟩ a3).setCell ⟨b,a+4,N⟩ a4).setCell ⟨b,a+5,N⟩ a5).setCell ⟨b,a+6,N⟩ a6) /\
  (((((((w.setCell ⟨b,a,N⟩ a0).setCell ⟨b,a+1,N⟩ a1).setCell ⟨b,a+2,N⟩ a2).setCell ⟨b,a+3,N⟩ a3).setCell ⟨b,a+4,N⟩ a4).setCell ⟨b,a+5,N⟩ a5).setCell ⟨b,a+6,N⟩ a6).heap.size=w.heap.size:=
 ⟨((((((((gB.refl b w).setCell a a0).setCell (a+1) a1).setCell (a+2) a2).setCell (a+3) a3).setCell (a+4) a4).setCell (a+5) a5).setCell (a+6) a6),by simp[World.setCell]⟩
def vq{w:Gr}{b:Nat}{k l m n o p r:GI}(h:w.heap[b]?=O (Pp #[k,l,m,n,o,p,r] 67 (0,0)))(a c e f g i j:GI):(((((((w.setCell ⟨b,0,N⟩ a).setCell ⟨b,1,N⟩ c).setCell ⟨b,2,N⟩ e).setCell ⟨b,3,N⟩ f).setCell ⟨b,4,N⟩ g).setCell ⟨b,5,N⟩ i).setCell ⟨b,6,N⟩ j).heap[b]?=O (Pp #[a,c,e,f,g,i,j] 67 (0,0)):=by
 rw[lV _ (lV _ (lV _ (lV _ (lV _ (lV _ (lV _ h))))))];rfl
def SB(f b:Nat)(e:Array GI)(a:Array Bool)(c:Gr):Prop:=a.getD f P2=P2->c.heap[b]?=O (Pp e 67 (0,0))
def SB.set{a i b:Nat}{f:Array GI}{c:Array Bool}{e:Gr}(g:i≠a):SB a b f c e↔SB a b f (c.setIfInBounds i PV) e:=by unfold SB;rw[eE P2 g]
def rM:Nat->Code->Code
 |0,c=>c
 |a+1,.seq _ b=>rM a b
 |_+1,c=>c
def headC:Code->Code
 | .seq a _=>a
 |c=>c
def ot{x4:GI}{pl:List Nat}{wt:Gr}{qt el:List Nat}{cg:VT 12}{pa:Option L2}{pn pc lo gx:Nat}{K L P:Int}{Q:ByteArray}{x R t:Option L2}{D z T S v u:Nat}(bc:L1 (Fi C B bs ao cap data wt qt J M x4 A Vs F E pl)){dl:Nat->Prop}(hP:∀a,dl a->lo<=a)(dc:L1 (gF dl 12 wt (N1 #[I U K,I U L,I U P,MV Q,Z x D z,Z R T S,Z t v u]) cg))(ct:L1 (wt.heap[gx]?=O (Pp #[I U K,I U L,I U P,MV Q,Z x D z,Z R T S,Z t v u] 67 (0,0))))(da:L1 (nQ wt B el (Z pa pn pc)))(ic:C.heap.size<=lo)(cy:lo<=gx)(b4:L1 ((∀a,J.ownBlock=O a->C.heap.size<=a/\a<lo)/\(∀a,M.ownBlock=O a->C.heap.size<=a/\a<lo)/\(∀a,x4.ownBlock=O a->C.heap.size<=a/\a<lo)))(hq:G A+G qt<=200000)(fa:G F=G A){cf:Option ((VT 12×List Nat)×List Nat)}
  (HR:L1 ((match gg [101,110,100,111,98,106] qt with
     |none=>N
     |some q5=>O ((cg,el),q5))=cf))
  {PL:List Nat} {c5:Nat} (c8:L1 (pl=PL++[c5])) (t4 t5 t6 t7 t8 t9 fc fd fi fr fs fu fv fw fx fz f0 f1 f2 f3 f4 f5 f6 f7 f8 ga gc gd gf gl gp gs gt gv g7 g9 ha hc hd hf hh hi hj hk hl hm hn ho hp hr hs ht hv hx hy hz h0 h4:GI):∀(cu:MN->Gr->Prop) (k:∀cv w,Code.wp Qe (rM 6 (f139.body.getD .skip)) (bodyPost Qe f139 (qF C B bs ao cap data Vs E PL c5 cf)) cv w->cu cv w),Code.wp Qe (headC (rM 5 (f139.body.getD .skip))) (Exit.then cu <| bodyPost Qe f139 (qF C B bs ao cap data Vs E PL c5 cf)) { tmps:=#[M2 (O ⟨bs,0,N⟩),undef,M2 (O ⟨gx,0,N⟩),Z pa pn pc,t4,t5,t6,t7,t8,t9,fc,fd,fi,fr,fs,fu,fv,fw,fx,fz,f0,f1,f2,f3,f4,f5,f6,f7,f8,ga,gc,gd,gf,gl,gp,gs,gt,gv,g7,g9,ha,hc,hd,hf,hh,hi,hj,hk,hl,hm,hn,ho,hp,hr,hs,ht,hv,hx,hy,hz,h0,h4,undef,undef,undef,undef,undef,undef,undef,undef,undef,undef,undef,undef,undef,undef,undef,undef,undef,undef,undef,undef,undef,undef,undef,undef,undef,undef],defers:=[]} wt:=by
 obtain⟨i1,gi,eo,ep,eq⟩:=bu iV;obtain⟨i2,bi,dp,dr,ds⟩:=bu iB;have il:G F<=200000:=Y;clear fa;have h7:=bc.o.sc.env;have h6:=bc.o.sc.hb;have ih:=bc.o.lt;intro cu k;simp only[f139,Option.getD_some,rM]at k;conv=>arg 2;simp only[f139,Option.getD_some,rM,headC]
 have b1:=H (xy bc.sc {data:=#[101,110,100,111,98,106]});rw[show bl {data:=#[101,110,100,111,98,106]}=[101,110,100,111,98,106]from rfl]at b1;cases e6:gg [101,110,100,111,98,106] qt with
 |none=>rw[e6]at b1 HR;have em:L1 (cf=N):=HR.o.s;clear HR;go_wp2_with fail;apply b1.o.m;rintro g h ⟨rfl,ch,bf⟩;have en:=H (bc.o.only.t bf);clear ch bf;go_wp2_with fail;apply(nZ _).m;rintro g w' ⟨rfl,hw⟩;have hw:=hw.s;subst hw;exact⟨rfl,.none_ em en⟩
 |some q5=>
  rw[e6]at b1 HR;simp only[]at HR;clear e6;go_wp2_with fail;apply b1.o.m;rintro g h ⟨rfl,ch,bf⟩;have bm:=H (bc.step (show Sc B bs ao cap data _ _ _ h q5 from ch) bf);have cp:=H (gF.only dc (λa l=>by have:=hP a l;omega) bf);have cd:=H ((bf.block _ (ae ct) Y).t ct);have b8:=H (da.keep (λa l=>bf.block a (by have:=bc.o.sc.env;omega) Y));clear ch bf b1 bc dc ct da;go_wp2_with fail;apply(oe _).m;rintro g w' ⟨rfl,hw⟩;have hw:=hw.s;subst hw;have ir:=ae cd;obtain⟨oa,oc,e8⟩:=jp bm.o.oo;have HC:L1 (SO 12 ⟨bs,2,N⟩ J gx #[I U K,I U L,I U P,MV Q,Z x D z,Z R T S,Z t v u] (Array.replicate 13 P2) h.drew):=⟨λ_=>bm.drew.sc.c2,cd⟩;go_wp2_with fail;refine om (SO 12 ⟨bs,2,N⟩ J gx #[I U K,I U L,I U P,MV Q,Z x D z,Z R T S,Z t v u]) aG ?_;intro e;have f:=HC.o;refine tj 0 e f λe f=>?_;refine tj 1 e f λe f=>?_;refine tj 2 e f λe f=>?_;refine tl 3 e f (λe f=>?_) (y:=λdn hW=>by obtain⟨dk,d5,hL,cw⟩:=hW;have h8:=cw.1 (by cases h9:dk.getD 12 P2 with|false=>rfl|true=>exact absurd (d5.came 3 12 aG h9) wS);go_simp;try(with_reducible rfl));refine tk 4 ?_ e ?_ f ?_;rotate_left
  ·intro dn hW;obtain⟨dk,d5,hL,cw⟩:=hW;have br:=cw.2;have e0:=mC br;have e1:=n5 br;have e2:=rZ br;have e3:=s_ br;have e4:=qZ br;have e5:=r_ br;have e6:=uy br;go_simp;try(with_reducible rfl)
  clear e f;intro e f;(try simp only[jd])
  subst e8;refine tj 5 e f λe f=>?_;refine on 6 e λK' k=>?_;go_simp;have V:=H (bm.drew.alloc (Pp gG 67));have ca:L1 ((h.drew.alloc (Pp gG 67)).heap[gx]?=O (Pp #[I U K,I U L,I U P,MV Q,Z x D z,Z R T S,Z t v u] 67 (0,0))):=mA _ cd;have c7:L1 (SO 12 ⟨bs,2,N⟩ (Z oa (G A) oc) gx #[I U K,I U L,I U P,MV Q,Z x D z,Z R T S,Z t v u] #[PV,PV,PV,PV,PV,PV,PV,P2,P2,P2,P2,P2,P2] (h.drew.alloc (Pp gG 67))):=⟨λ_=>V.sc.c2,ca⟩;refine k _ _ c7 (λp r=>?_);clear e f k K';have e:=p;have f:=r;clear p r
  (try simp only[jd])
  refine on 7 e λK' k=>?_;refine Bz rfl (.tmp 70) (.tmp 73) 29 rfl C.heap.size 67 i1 _ 7 112 dx gi eo ep eq rfl cO (Z oa (G A) oc) (G A) (A.flatMap cellsOf) rfl V.o.oo ⟨h.heap.size,0,N⟩ 1 1 [I U 0,I U 0,I U 0,MV {data:=#[]},Z N 0 0,Z N 0 0,Z N 0 0] rfl rfl ?hnews ?hone ?h63 ?hby ?hbs ?_
  case hnews=>intro ba ac s;rw[pR];show(h.alloc (Pp gG 67)).cell? ⟨h.heap.size,ba,N⟩=O ac;rw[iI (bn h _)];unfold gG;simpa using s
  case hone=>intro ac s;simp at s;rcases s with rfl|rfl|rfl<;>rfl
  case h63=>unfold maxLen;omega
  case hby=>omega
  case hbs=>exact V.o.only.size
  intro v6 j aa ck c4;obtain⟨b,W,e9,ia⟩:=uH aa Y;subst e9;have ci:=(ck.block bs (ae V.sc.blk) (λg=>by have:=(V.o.oo.lt _ g.s).1;omega)).t V.sc.blk;have eb:=(ck.block gx (ae ca) (λg=>by have h1:=(b4.1 _ g.s);omega)).t ca;have cy:b≠gx:=by
   rcases c4 b rfl with c|c;·have:=b4.o.1 _ c;omega
   ·have h3:h.heap.size+1<=b:=by simpa using c
    omega
  have a7:b≠bs:=Y;have bd:∀ba ac,([I U 0,I U 0,I U 0,MV {data:=#[]},Z N 0 0,Z N 0 0,Z N 0 0]:List GI)[ba]?=O ac->j.cell? ⟨b,G A*7+ba,N⟩=O ac:=λba ac s=>by
   have e7:=V.o.oo.1;have:=aa.cells (g:=b) rfl (G A*7+ba) ac (by rw[aF Y,e7,fV];exact s)
   rwa [pR]at this
  have z0:j.cell? ⟨b,G A*7,N⟩=O (I U 0):=bd 0 _ rfl;have dv:j.frozen? ⟨b,G A*7,N⟩=P2:=aa.frozenAt _;have z1:=bd 1 _ rfl;have dw:j.frozen? ⟨b,G A*7+1,N⟩=P2:=aa.frozenAt _;have z2:=bd 2 _ rfl;have d0:j.frozen? ⟨b,G A*7+2,N⟩=P2:=aa.frozenAt _;have z3:=bd 3 _ rfl;have d1:j.frozen? ⟨b,G A*7+3,N⟩=P2:=aa.frozenAt _;have z4:=bd 4 _ rfl;have d2:j.frozen? ⟨b,G A*7+4,N⟩=P2:=aa.frozenAt _;have z5:=bd 5 _ rfl;have d3:j.frozen? ⟨b,G A*7+5,N⟩=P2:=aa.frozenAt _;have z6:=bd 6 _ rfl;have d4:j.frozen? ⟨b,G A*7+6,N⟩=P2:=aa.frozenAt _;have cx:=rZ ci;have ea:=jR 2 ci;have b2:=H ci;have bo:=H eb;have al:=H aa;have b0:=H ck;have b9:=H c4;clear aa ck c4 ci eb bd HC c7 ca cd;refine k _ _ ⟨λ_=>cx,bo⟩ (λp r=>?_);clear e f k K';have e:=p;have f:=r;clear p r
  (try simp only[jd])
  refine tl 8 e f (λe f=>?_) (y:=λdn hW=>by have ib:(G A:Int)<(G A:Int)+1:=Y;go_simp;try(with_reducible rfl));refine tj 10 e f λe f=>?_;refine tj 11 e f λe f=>?_;have cc:L1 (gF (λa=>C.heap.size<=a/\(Z oa (G A) oc).ownBlock≠O a/\M.ownBlock≠O a/\x4.ownBlock≠O a) 12 (h.drew.alloc (Pp gG 67)) (N1 #[I U K,I U L,I U P,MV Q,Z x D z,Z R T S,Z t v u]) cg):=
   gF.m 12 (gF.keep (w:=h) 12 cp (λa _ ey=>(((aq h.heap.size h).drew).alloc (ag _) (Pp gG 67)).block a ey)) (λa l _=>⟨by have:=hP a l;omega,λg=>by have:=b4.o.1 a g;have:=hP a l;omega,λg=>by have:=b4.o.2.1 a g;have:=hP a l;omega,λg=>by have:=b4.o.2.2 a g;have:=hP a l;omega⟩)
  refine xn (i:=9) (j:=12) aG rfl rfl e (λK' k=>?_) (λK' k=>?_)
  ·go_simp;have bw:=wX j b (G A*7) (I U K) (I U L) (I U P) (MV Q) (Z x D z) (Z R T S) (Z t v u);have b6:=J1 (a0:=I U K) (a1:=I U L) (a2:=I U P) (a3:=MV Q) (a4:=Z x D z) (a5:=Z R T S) (a6:=Z t v u) al V.o.oo.1 rfl;generalize (((((((j.setCell ⟨b,G A*7,N⟩ (I U K)).setCell ⟨b,G A*7+1,N⟩ (I U L)).setCell ⟨b,G A*7+2,N⟩ (I U P)).setCell ⟨b,G A*7+3,N⟩ (MV Q)).setCell ⟨b,G A*7+4,N⟩ (Z x D z)).setCell ⟨b,G A*7+5,N⟩ (Z R T S)).setCell ⟨b,G A*7+6,N⟩ (Z t v u))=wA at *;have cj:=(bw.1.block bs (ae b2) (fW a7)).t b2;have ec:=(bw.1.block gx (ae bo) (fW cy)).t bo;have d7:=rZ cj;have ex:=jR 2 cj;have c6:=H cj;have cs:=H ec;have n:=H bw;have b5:=H b6;clear cj ec bw b6 z0 z1 z2 z3 z4 z5 z6 dv dw d0 d1 d2 d3 d4 cx ea;refine k _ _ ⟨λ_=>d7,cs⟩ (λp r=>?_);clear e f k K';have e:=p;have f:=r;clear p r
   (try simp only[jd])
   refine on 12 e λK' k=>?_;go_simp;refine k _ _ ⟨λh9=>(by cases h9),by rw[kW _ (by show gx≠bs;omega)];exact cs⟩ (λp r=>?_);clear e f k K';have e:=p;have f:=r;clear p r
   (try simp only[jd])
   refine oh aG ?_ _;clear e f;have bq:∀a,a≠bs->(Z (O ⟨b,0,N⟩) (G A+1) W).ownBlock≠O a->(wA.setCell ⟨bs,2,N⟩ (Z (O ⟨b,0,N⟩) (G A+1) W)).heap[a]?=j.heap[a]?:=λa h1 h2=>by
    rw[kW _ h1];rcases bU a j.heap.size with c|c;·exact n.1.block a c (λg=>h2 (by rw[g];rfl))
    ·rw[dC (by rw[n.o.2];exact c),dC c]
   have m:L1 (Fi C B bs ao cap data (wA.setCell ⟨bs,2,N⟩ (Z (O ⟨b,0,N⟩) (G A+1) W)) q5 (Z (O ⟨b,0,N⟩) (G A+1) W) M x4 (A++[N1 #[I U K,I U L,I U P,MV Q,Z x D z,Z R T S,Z t v u]]) (Vs++[cg]) F E pl):=
    V.o.obj (w6:=j) cc b0 b9 (λa l=>(al.lt a l).1) n.o.1.os n.1.tape n.o.1.output (by simp[World.setCell];exact n.2) bq (by rw[lV _ c6.o];rfl) (dt b5 (by show bs<C.heap.size;omega) _)
   have co:=H (b8.keep (λa l=>(bq a Y (λg=>by have:=(al.lt a g).1;omega)).t ((b0.block a (aQ (show a<h.heap.size by omega) ((aq h.heap.size h).drew.alloc (ag _) (Pp gG 67)).size) (λg=>by have:=(bm.o.oo.lt a g.s).1;omega)).t (((aq h.heap.size h).drew.alloc (ag _) (Pp gG 67)).block a (by show a<h.heap.size;omega)))));generalize wA.setCell ⟨bs,2,N⟩ (Z (O ⟨b,0,N⟩) (G A+1) W)=bb at *;clear bq c6 cs n b5 d7 ex cc b2 bo al b0 b9 V cp b8 bm;have es:=m.o.only.size;have c3:=m.o.sc.c3;obtain⟨qa,qc,c0⟩:=jp m.o.op;subst c0;go_wp2_with (at_builtin;refine yU rfl (.tmp 82) (.tmp 84) 42 rfl C.heap.size 23 i2 (Z N 0 0) 1 24 underlying42 bi dp dr ds rfl cO (Z qa (G F) qc) (G F) F rfl (m.alloc _).op ⟨bb.heap.size,0,N⟩ 1 1 [Z pa pn pc] rfl rfl (λba ac s=>by rw[pR,iI (bn bb _)];simpa using s) (by intro ac s;simp at s;subst s;rfl) oi Y eB ?_);intro v9 h5 bz bt b7;have cl:=H ((m.alloc _).pack (co.keep (λa l=>((aq bb.heap.size bb).alloc (ag _) _).block a Y)) bz bt (λa l=>by have:=b7 a l;simpa using this));have bx:=(bt.block bs (ae (m.alloc _).sc.blk) (λg=>by have:=(m.o.op.lt _ g.s).1;omega)).t (m.alloc _).sc.blk;have eu:=s_ bx;have ev:=jR 3 bx;obtain⟨a9,c9,c1⟩:=jp bz;subst c1;clear bz bt b7 bx;go_wp2
   go_end0
   exact .some_ HR.s ⟨_,_,_,_,_,c8▸cl.o⟩
  ·go_simp;have ad:gB bs j (j.setCell ⟨bs,2,N⟩ (Z (O ⟨b,0,N⟩) (G A+1) W)):=(gB.refl bs j).setCell 2 _;have ek:(j.setCell ⟨bs,2,N⟩ (Z (O ⟨b,0,N⟩) (G A+1) W)).heap.size=j.heap.size:=by simp[World.setCell]
   have d6:(j.setCell ⟨bs,2,N⟩ (Z (O ⟨b,0,N⟩) (G A+1) W)).heap[bs]?=O (Pp #[Z ao (G data) cap,I U (G data-G q5:Nat),Z (O ⟨b,0,N⟩) (G A+1) W,M,x4] 131 (0,0)):=by rw[lV _ b2.o];rfl
   have a8:=dt al (a:=⟨bs,2,N⟩) (by show bs<C.heap.size;omega) (Z (O ⟨b,0,N⟩) (G A+1) W);generalize j.setCell ⟨bs,2,N⟩ (Z (O ⟨b,0,N⟩) (G A+1) W)=wB at *;have bv:=(al.lt b rfl).2;have ee:=(ad.block gx (ae bo) Y).t bo;have y0:=tZ z0 (ad.block b bv a7);have g0:wB.frozen? ⟨b,G A*7,N⟩=P2:=a8.frozenAt _;have y1:=tZ z1 (ad.block b bv a7);have g1:wB.frozen? ⟨b,G A*7+1,N⟩=P2:=a8.frozenAt _;have y2:=tZ z2 (ad.block b bv a7);have g2:wB.frozen? ⟨b,G A*7+2,N⟩=P2:=a8.frozenAt _;have y3:=tZ z3 (ad.block b bv a7);have g3:wB.frozen? ⟨b,G A*7+3,N⟩=P2:=a8.frozenAt _;have y4:=tZ z4 (ad.block b bv a7);have g4:wB.frozen? ⟨b,G A*7+4,N⟩=P2:=a8.frozenAt _;have y5:=tZ z5 (ad.block b bv a7);have g5:wB.frozen? ⟨b,G A*7+5,N⟩=P2:=a8.frozenAt _;have y6:=tZ z6 (ad.block b bv a7);have g6:wB.frozen? ⟨b,G A*7+6,N⟩=P2:=a8.frozenAt _;have cb:=H ee;have cn:=H d6;have b3:=H ad;have db:=H a8;have ce:=H ek;clear ee d6 ad a8 ek z0 z1 z2 z3 z4 z5 z6 dv dw d0 d1 d2 d3 d4 cx ea;refine k _ _ ⟨λh9=>(by cases h9),cb⟩ (λp r=>?_);clear e f k K';have e:=p;have f:=r;clear p r
   (try simp only[jd])
   refine on 9 e λK' k=>?_;go_simp;have bw:=wX wB b (G A*7) (I U K) (I U L) (I U P) (MV Q) (Z x D z) (Z R T S) (Z t v u);have b6:=J1 (a0:=I U K) (a1:=I U L) (a2:=I U P) (a3:=MV Q) (a4:=Z x D z) (a5:=Z R T S) (a6:=Z t v u) db V.o.oo.1 rfl;generalize (((((((wB.setCell ⟨b,G A*7,N⟩ (I U K)).setCell ⟨b,G A*7+1,N⟩ (I U L)).setCell ⟨b,G A*7+2,N⟩ (I U P)).setCell ⟨b,G A*7+3,N⟩ (MV Q)).setCell ⟨b,G A*7+4,N⟩ (Z x D z)).setCell ⟨b,G A*7+5,N⟩ (Z R T S)).setCell ⟨b,G A*7+6,N⟩ (Z t v u))=wA at *;have n:=H bw;have b5:=H b6;clear bw b6 y0 y1 y2 y3 y4 y5 y6 g0 g1 g2 g3 g4 g5 g6;refine k _ _ ⟨λh9=>(by cases h9),(n.1.block gx (ae cb) (fW cy)).t cb⟩ (λp r=>?_);clear e f k K';have e:=p;have f:=r;clear p r
   (try simp only[jd])
   refine oh aG ?_ _;clear e f;have bq:∀a,a≠bs->(Z (O ⟨b,0,N⟩) (G A+1) W).ownBlock≠O a->wA.heap[a]?=j.heap[a]?:=λa h1 h2=>by
    rcases bU a j.heap.size with c|c;·exact(n.1.block a (by rw[ce.o];exact c) (λg=>h2 (by rw[g];rfl))).t (b3.block a c h1)
    ·rw[dC (by rw[n.o.2,ce.o];exact c),dC c]
   have m:=
    H (V.o.obj (w6:=j) cc b0 b9 (λa l=>(al.lt a l).1) (n.o.1.os.t b3.o.os) (n.1.tape.t b3.tape) (n.o.1.output.t b3.o.output) (n.2.t ce) bq ((n.1.block bs (ae cn) (fW a7)).t cn) b5)
   have co:=H (b8.keep (λa l=>(bq a Y (λg=>by have:=(al.lt a g).1;omega)).t ((b0.block a (aQ (show a<h.heap.size by omega) ((aq h.heap.size h).drew.alloc (ag _) (Pp gG 67)).size) (λg=>by have:=(bm.o.oo.lt a g.s).1;omega)).t (((aq h.heap.size h).drew.alloc (ag _) (Pp gG 67)).block a (by show a<h.heap.size;omega)))));obtain⟨bb,fb⟩:∃bb,wA=bb:=⟨_,rfl⟩;subst fb;have bb:=wA;clear bb;clear bq n b5 cc b2 bo al b0 b9 V cp b8 bm cn cb b3 db ce;have es:=m.o.only.size;have c3:=m.o.sc.c3;obtain⟨qa,qc,c0⟩:=jp m.o.op;subst c0;go_wp2_with (at_builtin;refine yU rfl (.tmp 82) (.tmp 84) 42 rfl C.heap.size 23 i2 (Z N 0 0) 1 24 underlying42 bi dp dr ds rfl cO (Z qa (G F) qc) (G F) F rfl (m.alloc _).op ⟨wA.heap.size,0,N⟩ 1 1 [Z pa pn pc] rfl rfl (λba ac s=>by rw[pR,iI (bn wA _)];simpa using s) (by intro ac s;simp at s;subst s;rfl) oi Y eB ?_);intro v9 h5 bz bt b7;have cl:=H ((m.alloc _).pack (co.keep (λa l=>((aq wA.heap.size wA).alloc (ag _) _).block a Y)) bz bt (λa l=>by have:=b7 a l;simpa using this));have bx:=(bt.block bs (ae (m.alloc _).sc.blk) (λg=>by have:=(m.o.op.lt _ g.s).1;omega)).t (m.alloc _).sc.blk;have eu:=s_ bx;have ev:=jR 3 bx;obtain⟨a9,c9,c1⟩:=jp bz;subst c1;clear bz bt b7 bx;go_wp2
   go_end0
   exact .some_ HR.s ⟨_,_,_,_,_,c8▸cl.o⟩
def Nb{x4:GI}(cx:L1 (∀b0:Gr,gB bs C b0->qR B b0)){pl:List Nat}(i:L1 (Fi C B bs ao cap data w q J M x4 A Vs F E pl))(hq:G A+G q<=200000)(dc:G F=G A){ba:Option ((VT 12×List Nat)×List Nat)}
  (e:L1 ((match iY q with
    |none=>N
    |some (b9,q4)=>match gg [101,110,100,111,98,106] q4 with
     |none=>N
     |some q5=>O (b9,q5))=ba))
  {PL:List Nat} {cv:Nat} (bt:L1 (pl=PL++[cv])) (t4 t5 t6 t7 t8 t9 dn dp dr ds dv dw d0 d1 d2 d3 d4 d5 d6 d7 ea eb ec ee ek el em en eo ep eq es eu ev ex ey e8:GI):Code.wp Qe (rM 2 (f139.body.getD .skip)) (bodyPost Qe f139 (qF C B bs ao cap data Vs E PL cv ba)) { tmps:=#[M2 (O ⟨bs,0,N⟩),undef,undef,undef,t4,t5,t6,t7,t8,t9,dn,dp,dr,ds,dv,dw,d0,d1,d2,d3,d4,d5,d6,d7,ea,eb,ec,ee,ek,el,em,en,eo,ep,eq,es,eu,ev,ex,ey,e8,undef,undef,undef,undef,undef,undef,undef,undef,undef,undef,undef,undef,undef,undef,undef,undef,undef,undef,undef,undef,undef,undef,undef,undef,undef,undef,undef,undef,undef,undef,undef,undef,undef,undef,undef,undef,undef,undef,undef,undef,undef,undef,undef,undef,undef,undef,undef],defers:=[]} w:=by
 obtain⟨i1,gi,fi,fr,fs⟩:=bu iV;obtain⟨i2,bi,fb,fc,fd⟩:=bu iB;have bw:=H dc;have fu:=i.o.sc.env;have fw:=i.o.sc.lt;have b1:=i.o.only.size;have W:=H (G5 (B:=B) (bs:=bs) (ao:=ao) (cap:=cap) (data:=data) 12 (ag _) w q (cx w i.o.only).err i.sc);rw[show((13-12:Nat):Int)=1 from rfl]at W;conv=>arg 2;simp only[f139,Option.getD_some,rM]
 unfold iY at e;cases e4:gj 12 q with
 |none=>rw[e4]at W e;have bv:L1 (ba=N):=e.o.s;go_wp2_with fail;apply W.o.m;rintro a6 c ⟨rfl,k5⟩;exact⟨rfl,.none_ bv (i.o.only.t k5)⟩
 |some b9=>
  obtain⟨bb,q4⟩:=b9;have f7:=iQ e4;have cj:=l_ e4 (show (G q)<=200000 by omega);rw[e4]at W e;simp only[]at e;clear e4;go_wp2_with fail;apply W.o.m;rintro a6 c ⟨e9,rfl,bm,h5,k5⟩;have H7:=H (i.step h5 k5);have b2:=k5.size;have cr:gF (λa=>w.heap.size<=a/\a<c.heap.size) 12 c e9 bb:=gF.m 12 bm (λa h1 h2=>⟨h1,h2⟩);obtain⟨D,K,L,P,x,z,y,Q,S,R,s,u,t,ct⟩:=gF.form bm;have bf:D=((gk.kind (α:=VT 11) bb:Nat):Int):=by obtain⟨iv,kv,fv,gc,al,_⟩:=gF.parts (k:=11) bm;rw[ct]at al;unfold nV at al;injection al with al;simp at al;exact al.1
  subst ct;have bc:LT c.heap.size c (c.alloc (Pp #[I U D,I U K,I U L,MV P,Z x z y,Z Q S R,Z s u t] 67)):=(aq _ _).alloc (ag _) _;have T:=H (H7.below bc);have a3:=H (gF.keep 12 cr (λa g _=>bc.block a g.2));have ci:(c.alloc (Pp #[I U D,I U K,I U L,MV P,Z x z y,Z Q S R,Z s u t] 67)).heap[c.heap.size]?=O (Pp #[I U D,I U K,I U L,MV P,Z x z y,Z Q S R,Z s u t] 67 (0,0)):=bn _ _;have r:=H ci;have c0:=H (k5.t (.of_below bc));have ca:=H cj;have ck:=i.o.oo.lt;have cl:=i.o.op.lt;have cn:=i.o.ol.lt;have br:=H (And.intro ck (And.intro cl cn));clear bm cr bc ci h5 k5 W H7 cj ck cl cn;generalize cs:c.alloc (Pp #[I U D,I U K,I U L,MV P,Z x z y,Z Q S R,Z s u t] 67)=w8 at *;have a9:=H cs;clear cs;by_cases h7:gk.kind (α:=VT 11) bb=7
  ·rw[ai h7]at e;have c7:D=7:=by rw[bf,h7];rfl
   clear bf;subst c7;have V:=H (xy T.sc {data:=#[115,116,114,101,97,109]});rw[show bl {data:=#[115,116,114,101,97,109]}=[115,116,114,101,97,109]from rfl]at V;cases e5:gg [115,116,114,101,97,109] q4 with
   |none=>
    rw[e5]at V e;simp only[]at e;go_wp2_with fail;rw[a9.o];apply V.o.m;rintro a6 p ⟨rfl,m,n⟩;have a0:=H (T.step (show Sc B bs ao cap data _ _ _ p q4 from m) n);have a4:=H (gF.only a3 (λa g=>Y) n);have a5:=H ((n.block _ (ae r) Y).t r);clear m n V T a3 r a9 e5;have a2:L1 (nQ p B [] (Z N 0 0)):=P3 ⟨rfl,rfl⟩
    go_upto_region 6 with fail
    refine ot a0 (λa g=>g.1) a4 a5 a2 b1 b2 br Y bw e bt _ _ _ _ _ _ _ _ _ _ _ _ _ _ _ _ _ _ _ _ _ _ _ _ _ _ _ _ _ _ _ _ _ _ _ _ _ _ _ _ _ _ _ _ _ _ _ _ _ _ _ _ _ _ _ _ _ _ _ ?_;assumption
   |some cw=>
    rw[e5]at V e;simp only[]at e;have fz:=gQ e5;go_wp2_with fail;rw[a9.o];apply V.o.m;rintro a6 p ⟨rfl,m,n⟩;have bq:=H (T.step (show Sc B bs ao cap data _ _ _ p cw from m) n);have cg:=H (gF.only a3 (λa g=>Y) n);have bz:=H ((n.block _ (ae r) Y).t r);have db:=ae bz;have cy:=H (c0.t n);have a8:=H (GU (k:=11) bq.drew.sc (gF.keep (w:=p) (w':=p.drew) 12 cg (λa _ _=>rfl)) (λa g=>Y) (ca.2.2.1 h7) ca.few);have HC:L1 (SB 8 c.heap.size #[I U 7,I U K,I U L,MV P,Z x z y,Z Q S R,Z s u t] (Array.replicate 10 P2) p.drew):=λ_=>bz;go_wp2_with fail;refine om (SB 8 c.heap.size #[I U 7,I U K,I U L,MV P,Z x z y,Z Q S R,Z s u t]) aG ?_;intro b;have f:=HC.o;refine tj 0 b f λb f=>?_;refine tj 1 b f λb f=>?_;refine tj 2 b f λb f=>?_;refine tk 3 ?_ b ?_ f ?_;rotate_left
    ·intro b0 hW;obtain⟨c1,c4,hL,c5⟩:=hW;have v:=c5 (by cases m:c1.getD 8 P2 with|false=>rfl|true=>exact absurd (c4.came 3 8 aG m) wS);have e0:=mC v;have e1:=n5 v;have e2:=rZ v;have e3:=s_ v;have e4:=qZ v;have e5:=r_ v;have e6:=uy v;go_simp;try(with_reducible rfl)
    clear b f;intro b f;(try simp only[jd])
    cases e7:ju (k:=11) bb cw with
    |none=>rw[e7]at a8 e;have bv:L1 (ba=N):=e.o.s;refine on 4 b λK' hK=>?_;go_simp;apply a8.o.m;rintro a6 a7 ⟨rfl,bo⟩;exact⟨rfl,.none_ bv (bq.o.drew.only.t bo)⟩
    |some fa=>
     obtain⟨⟨c2,cu⟩,q6⟩:=fa;have fx:=pM e7;rw[e7]at a8 e;simp only[]at e;refine on 4 b λK' hK=>?_;go_simp;apply a8.o.m;rintro a6 a7 ⟨_,rfl,⟨sv,f8,rfl,co,cp⟩,c3,bo⟩;have da:gF (λa=>w.heap.size<=a/\a≠c.heap.size) 12 a7 sv c2:=gF.m 12 co (λa g _=>by rcases g with g|g;exact⟨g.1,Y⟩;have h3:p.heap.size<=a:=g;exact⟨Y,Y⟩);obtain⟨s0,s1,s2,s3,sa,sl,sc,b3,b7,b5,b4,b8,b6,rfl⟩:=gF.form co;obtain⟨bd,od,cd,c9,_⟩:=id cp;have h:a7.heap[c.heap.size]?=O (Pp #[I U 7,I U K,I U L,MV P,Z x z y,Z Q S R,Z s u t] 67 (0,0)):=by rw[bo.block _ db Y];exact bz
     have j:=H c3;have a1:=H (cy.t ((gB.of_below (aq _ _).drew).t bo));have cf:=H da;have ce:=H cp;have bx:=H h;subst c9;have r0:=mC h;have f0:=jR 0 h;have r1:=n5 h;have f1:=jR 1 h;have r2:=rZ h;have f2:=jR 2 h;have r3:=s_ h;have f3:=jR 3 h;have r4:=qZ h;have f4:=jR 4 h;have r5:=r_ h;have f5:=jR 5 h;have r6:=uy h;have f6:=jR 6 h;generalize (G cu)=ln at *;refine hK _ _ (λ_=>bx) (λaa ac=>?_);have b:=aa;have f:=ac
     (try simp only[jd])
     refine tj 5 b f λb f=>?_;refine tj 6 b f λb f=>?_;refine tj 7 b f λb f=>?_;refine on 8 b λK' hK=>?_;go_simp;have c8:=lX a7 c.heap.size (I U s0) (I U s1) (I U s2) (MV s3) (Z sa sl sc) (Z b3 b7 b5) (Z b4 b8 b6);have dl:=vq bx (I U s0) (I U s1) (I U s2) (MV s3) (Z sa sl sc) (Z b3 b7 b5) (Z b4 b8 b6);generalize (((((((a7.setCell ⟨c.heap.size,0,N⟩ (I U s0)).setCell ⟨c.heap.size,1,N⟩ (I U s1)).setCell ⟨c.heap.size,2,N⟩ (I U s2)).setCell ⟨c.heap.size,3,N⟩ (MV s3)).setCell ⟨c.heap.size,4,N⟩ (Z sa sl sc)).setCell ⟨c.heap.size,5,N⟩ (Z b3 b7 b5)).setCell ⟨c.heap.size,6,N⟩ (Z b4 b8 b6))=wA at *;have l:=H c8;have ch:=H dl;refine hK _ _ (λm=>by cases m) (λaa ac=>?_);have b:=aa;have f:=ac
     (try simp only[jd])
     refine on 9 b λK' hK=>?_;go_simp;refine hK _ _ (λm=>by cases m) (λaa ac=>?_);have b:=aa;have f:=ac;clear aa ac
     (try simp only[jd])
     refine oh aG ?_ _;clear b f;have dk:=a1.o.size;have cb:L1 (gB bs w wA):=⟨l.o.os.t a1.o.os,l.tape.t a1.tape,l.o.output.t a1.o.output,aA dk l.size,λa h1 h2=>(l.block a Y Y).t (a1.block a h1 h2)⟩;have cc:L1 (Sc B bs ao cap data J M x4 wA q6):=⟨j.hb,(l.block bs (ae j.blk) Y).t j.blk,j.o.dat.other (λa g=>l.block a Y Y),j.byt,j.len,j.lc,j.le,j.suf,j.ad⟩;have a0:=H (i.step cc cb);have a4:=H (gF.keep (w':=wA) 12 cf (λa g c6=>l.block a c6 g.2));have a5:=ch;have a2:L1 (nQ wA B cu (Z (O ⟨bd,od,N⟩) ln cd)):=P4 (ce.o.only l Y Y);clear cb cc l ch ce cf bx j bq cg
     go_upto_region 6 with fail
     refine ot a0 (λa g=>g.1) a4 a5 a2 b1 b2 br Y bw e bt _ _ _ _ _ _ _ _ _ _ _ _ _ _ _ _ _ _ _ _ _ _ _ _ _ _ _ _ _ _ _ _ _ _ _ _ _ _ _ _ _ _ _ _ _ _ _ _ _ _ _ _ _ _ _ _ _ _ _ ?_;assumption
  ·rw[ah h7]at e;simp only[]at e;have ga:(D==7)=P2:=by rw[bf];simp;omega
   have a0:=T;have a4:=a3;have a5:=r;clear T a3 r h7 bf;have a2:L1 (nQ w8 B [] (Z N 0 0)):=P3 ⟨rfl,rfl⟩
   go_upto_region 6 with fail
   rw[a9.o];refine ot a0 (λa g=>g.1) a4 a5 a2 b1 b2 br Y bw e bt _ _ _ _ _ _ _ _ _ _ _ _ _ _ _ _ _ _ _ _ _ _ _ _ _ _ _ _ _ _ _ _ _ _ _ _ _ _ _ _ _ _ _ _ _ _ _ _ _ _ _ _ _ _ _ _ _ _ _ ?_;assumption
def Na(a9:qR B C)(h:Fi C B bs ao cap data w q J M X A Vs F E d)(b7:G d+G q<=200000)(cc:G A=G d)(b8:G F=G d):K8 Qe 139 #[M2 (O ⟨bs,0,N⟩)] w (qF C B bs ao cap data Vs E d (G data-G q) (jS (G d+1) q)):=by
 obtain⟨i0,hi,bf,bm,bo⟩:=bu Eg;obtain⟨i1,gi,b0,b1,b3⟩:=bu iV;obtain⟨i2,bi,bw,bx,bz⟩:=bu iB;have HF:=H h;have al:L1 (∀r:Gr,gB bs C r->qR B r):=λr bt=>a9.only h.sc.hb (aA h.sc.hb (ew h.lt)) bt;have b6:=h.lt;have bb:=h.sc.lt;obtain⟨z,hR⟩:∃z,jS (G d+1) q=z:=⟨_,rfl⟩;rw[hR];have i:=H hR;unfold jS at i;obtain⟨n,a0⟩:∃V,G data-G q=V:=⟨_,rfl⟩;rw[a0];have c1:w.cell? ⟨bs,1,N⟩=O (I U n):=by rw[<-a0];exact h.sc.c1
 have c4:=h.sc.c4;obtain⟨la,lc,ba⟩:=jp h.ol;have HC:L1 (xu 14 ⟨bs,4,N⟩ ⟨bs,1,N⟩ X (I U n) (Array.replicate 15 P2) w.drew):=⟨λ_=>c4,c1⟩
 go_in
 go_wp2_with fail;refine om (xu 14 ⟨bs,4,N⟩ ⟨bs,1,N⟩ X (I U n)) aG ?_;intro a;have b:=HC.o;refine tj 0 a b λa b=>?_;refine tj 1 a b λa b=>?_;refine tj 2 a b λa b=>?_;refine tj 3 a b λa b=>?_;refine tl 4 a b (λa b=>?_) (y:=λr K=>by obtain⟨T,aa,hL,D⟩:=K;have a1:=D.1 (by cases h9:T.getD 14 P2 with|false=>rfl|true=>exact absurd (aa.came 3 14 aG h9) wS);go_simp;try(with_reducible rfl));refine tj 5 a b λa b=>?_;refine tj 6 a b λa b=>?_;refine tj 7 a b λa b=>?_;refine tj 8 a b λa b=>?_;refine tl 9 a b (λa b=>?_) (y:=λr K=>by obtain⟨T,aa,hL,D⟩:=K;have a1:=D.2;go_simp;try(with_reducible rfl));refine on 10 a λg c=>?_;go_simp;have o:=H (HF.drew.alloc (Pp #[I U n] 3));have e4:=o.o.sc.c4;have e1:(w.drew.alloc (Pp #[I U n] 3)).cell? ⟨bs,1,N⟩=O (I U n):=by rw[World.cell?_alloc_lt _ _ _ bb];exact c1
 refine c _ _ ⟨λ_=>e4,e1⟩ (λe f=>?_);have a:=e;have b:=f
 (try simp only[jd])
 refine on 11 a λg c=>?_;refine Bz rfl (.tmp 8) (.tmp 14) 52 rfl C.heap.size 3 i0 (I U 0) 1 8 cG hi bf bm bo rfl cO X (G d) (d.map λbr:Nat=>I U br) (by rw[ba];rfl) o.o.ol ⟨w.heap.size,0,N⟩ 1 1 [I U n] rfl rfl ?hnews ?hone ?h63 ?hby ?hbs ?_
 case hnews=>intro bq a4 S;rw[pR];show(w.alloc (Pp #[I U n] 3)).cell? ⟨w.heap.size,bq,N⟩=O a4;rw[iI (bn w _)];simpa using S
 case hone=>intro a4 S;simp at S;subst S;rfl
 case h63=>unfold maxLen;omega
 case hby=>omega
 case hbs=>exact o.o.only.size
 intro v6 w6 a3 a2 bd;have s:=H (o.place a3 a2 bd);have ad:=(a2.block bs (ae o.sc.blk) (λj=>by have:=(o.o.ol.lt _ j.s).1;omega)).t o.sc.blk;have ac:=qZ ad;have R:w6.cell? ⟨bs,1,N⟩=O (I U n):=by rw[iI ad,<-iI o.o.sc.blk];exact e1
 have b5:=jR 4 ad;obtain⟨P,Q,bc⟩:=jp a3;subst bc;refine c _ _ ⟨λ_=>ac,R⟩ (λe f=>?_);have a:=e;have b:=f
 (try simp only[jd])
 refine on 12 a λg c=>?_;go_simp;refine c _ _ ⟨λ_=>ac,R⟩ (λe f=>?_);have a:=e;have b:=f
 (try simp only[jd])
 refine on 13 a λg c=>?_;go_simp;refine c _ _ ⟨λ_=>ac,R⟩ (λe f=>?_);have a:=e;have b:=f
 (try simp only[jd])
 refine on 14 a λg c=>?_;go_simp;refine c _ _ ⟨λh9=>(by cases h9),(World.cell?_setCell_other _ _ _ _ (by intro j;injection j with e1 e2;cases e2)).t R⟩ (λe f=>?_);have a:=e;have b:=f
 (try simp only[jd])
 refine oh aG ?_ _;generalize w6.setCell ⟨bs,4,N⟩ (Z P (G d+1) Q)=w1 at *;obtain⟨m,hN⟩:∃m,G d+1=m:=⟨_,rfl⟩;rw[hN]at s i;have b4:m<=200001:=Y;have a7:=H s.drew.sc;have a5:=H (al _ s.o.drew.only);have a8:=s.o.drew.sc.env;go_wp2_with fail;refine om (Hm ⟨bs,4,N⟩ (Z P m Q)) aG ?_;intro a;have b:Hm ⟨bs,4,N⟩ (Z P m Q) (Array.replicate 23 P2) w1.drew:=a7.o.c4;refine tj 0 a b λa b=>?_;refine tj 1 a b λa b=>?_;refine tj 2 a b λa b=>?_;refine tj 3 a b λa b=>?_;refine tj 4 a b λa b=>?_;refine tj 5 a b λa b=>?_;refine tl 6 a b (λa b=>?_) (y:=λr K=>by obtain⟨T,aa,hL,D⟩:=K;have a1:r.cell? ⟨bs,4,N⟩=O (Z P m Q):=D;go_simp;try(with_reducible rfl));refine tj 7 a b λa b=>?_;refine on 8 a λg c=>?_;go_simp;apply(io a5 a8 m Y).m;rintro j w2 ⟨rfl,b2⟩;have L:=H (s.drew.below b2);have u:=H (xy L.sc (ge (gE m)));rw[ui _ (yy m)]at u;generalize ge (gE m)=bv at *;refine c _ _ L.sc.c4 (λe f=>?_);have a:=e;have b:=f
 (try simp only[jd])
 cases e1:gg (gE m) q with
 |none=>
  rw[e1]at u i;have t:L1 (z=N):=i.o.s;refine on 9 a λg c=>?_;go_simp;apply u.o.m;rintro j w3 ⟨rfl,h3,k3⟩;have k:=H (L.step (show Sc B bs ao cap data _ _ _ w3 q from h3) k3);refine c _ _ k.sc.c4 (λe f=>?_);have a:=e;have b:=f
  (try simp only[jd])
  refine on 10 a λg c=>?_;go_simp;refine c _ _ k.sc.c4 (λe f=>?_);have a:=e;have b:=f
  (try simp only[jd])
  refine tv 11 a b λa b=>?_;refine tv 12 a b λa b=>?_;refine tv 13 a b λa b=>?_;refine tv 14 a b λa b=>?_;refine on 15 a λg c=>?_;go_simp;refine c _ _ k.sc.c4 (λe f=>?_);have a:=e;have b:=f
  (try simp only[jd])
  refine on 16 a λg c=>?_;go_simp;refine c _ _ k.sc.c4 (λe f=>?_);have a:=e;have b:=f
  (try simp only[jd])
  refine tv 17 a b λa b=>?_;refine tv 18 a b λa b=>?_;refine tv 19 a b λa b=>?_;refine tv 20 a b λa b=>?_;refine on 21 a λg c=>?_;go_simp;refine c _ _ k.sc.c4 (λe f=>?_);have a:=e;have b:=f
  (try simp only[jd])
  refine on 22 a λg c=>?_;go_simp;apply(nZ _).m;rintro j w' ⟨rfl,rfl⟩;exact⟨rfl,.none_ t k.o.only⟩
 |some q1=>
  have b9:=gQ e1;rw[e1]at u i;simp only[]at i;refine on 9 a λg c=>?_;go_simp;apply u.o.m;rintro j w3 ⟨rfl,h3,k3⟩;have k:=H (L.step (show Sc B bs ao cap data _ _ _ w3 q1 from h3) k3);have v:=H (xy k.sc {data:=#[48]});rw[show bl {data:=#[48]}=[48]from rfl]at v;refine c _ _ k.sc.c4 (λe f=>?_);have a:=e;have b:=f
  (try simp only[jd])
  refine on 10 a λg c=>?_;go_simp;refine c _ _ k.sc.c4 (λe f=>?_);have a:=e;have b:=f
  (try simp only[jd])
  refine tj 11 a b λa b=>?_;refine tj 12 a b λa b=>?_;refine tj 13 a b λa b=>?_;cases e2:gg [48] q1 with
  |none=>
   rw[e2]at v i;have t:L1 (z=N):=i.o.s;refine on 14 a λg c=>?_;go_simp;apply v.o.m;rintro j w4 ⟨rfl,h4,k4⟩;have l:=H (k.step (show Sc B bs ao cap data _ _ _ w4 q1 from h4) k4);refine c _ _ l.sc.c4 (λe f=>?_);have a:=e;have b:=f
   (try simp only[jd])
   refine on 15 a λg c=>?_;go_simp;refine c _ _ l.sc.c4 (λe f=>?_);have a:=e;have b:=f
   (try simp only[jd])
   refine on 16 a λg c=>?_;go_simp;refine c _ _ l.sc.c4 (λe f=>?_);have a:=e;have b:=f
   (try simp only[jd])
   refine tv 17 a b λa b=>?_;refine tv 18 a b λa b=>?_;refine tv 19 a b λa b=>?_;refine tv 20 a b λa b=>?_;refine on 21 a λg c=>?_;go_simp;refine c _ _ l.sc.c4 (λe f=>?_);have a:=e;have b:=f
   (try simp only[jd])
   refine on 22 a λg c=>?_;go_simp;apply(nZ _).m;rintro j w' ⟨rfl,rfl⟩;exact⟨rfl,.none_ t l.o.only⟩
  |some q2=>
   have ca:=gQ e2;rw[e2]at v i;simp only[]at i;refine on 14 a λg c=>?_;go_simp;apply v.o.m;rintro j w4 ⟨rfl,h4,k4⟩;have l:=H (k.step (show Sc B bs ao cap data _ _ _ w4 q2 from h4) k4);have x:=H (xy l.sc {data:=#[111,98,106]});rw[show bl {data:=#[111,98,106]}=[111,98,106]from rfl]at x;refine c _ _ l.sc.c4 (λe f=>?_);have a:=e;have b:=f
   (try simp only[jd])
   refine on 15 a λg c=>?_;go_simp;refine c _ _ l.sc.c4 (λe f=>?_);have a:=e;have b:=f
   (try simp only[jd])
   refine on 16 a λg c=>?_;go_simp;refine c _ _ l.sc.c4 (λe f=>?_);have a:=e;have b:=f
   (try simp only[jd])
   refine tj 17 a b λa b=>?_;refine tj 18 a b λa b=>?_;refine tj 19 a b λa b=>?_;cases W:gg [111,98,106] q2 with
   |none=>
    rw[W]at x i;have t:L1 (z=N):=i.o.s;refine on 20 a λg c=>?_;go_simp;apply x.o.m;rintro j w5 ⟨rfl,h5,k5⟩;have p:=H (l.step (show Sc B bs ao cap data _ _ _ w5 q2 from h5) k5);refine c _ _ p.sc.c4 (λe f=>?_);have a:=e;have b:=f
    (try simp only[jd])
    refine on 21 a λg c=>?_;go_simp;refine c _ _ p.sc.c4 (λe f=>?_);have a:=e;have b:=f
    (try simp only[jd])
    refine on 22 a λg c=>?_;go_simp;apply(nZ _).m;rintro j w' ⟨rfl,rfl⟩;exact⟨rfl,.none_ t p.o.only⟩
   |some q3=>
    have cb:=gQ W;rw[W]at x i;simp only[]at i;refine on 20 a λg c=>?_;go_simp;apply x.o.m;rintro j w5 ⟨rfl,h5,k5⟩;have p:=H (l.step (show Sc B bs ao cap data _ _ _ w5 q3 from h5) k5);refine c _ _ p.sc.c4 (λe f=>?_);have a:=e;have b:=f
    (try simp only[jd])
    refine on 21 a λg c=>?_;go_simp;refine c _ _ p.sc.c4 (λe f=>?_);have a:=e;have b:=f
    (try simp only[jd])
    refine on 22 a λg c=>?_;go_simp;apply(oe _).m;rintro j w' ⟨rfl,hw⟩;have hw:=hw.s;subst hw;refine c _ _ p.sc.c4 (λe f=>?_);have a:=e;have b:=f
    (try simp only[jd])
    refine oh aG ?_ _;refine(show Exit.then _ _ Exit.normal _ _ from(‹∀(V:MN) (w:Gr),Code.wp Qe _ _ V w->_› _ _ ?_));exact Nb al p Y Y i (Eq.refl (d++[n])) _ _ _ _ _ _ _ _ _ _ _ _ _ _ _ _ _ _ _ _ _ _ _ _ _ _ _ _ _ _ _ _ _ _ _ _ _
def g_(len:Nat):Nat->Nat->List Nat->Option ((List (VT 12×List Nat)×List Nat)×List Nat)
 |0,_,_=>N
 |c+1,b,r=>if([120,114,101,102]:List Nat).isPrefixOf r=PV then O (([],[]),r)else match jS (b+1) r with
  |none=>N
  |some (e,q)=>(g_ len c (b+1) (f9 q)).map λa=>((e::a.1.1,(len-G r)::a.1.2),a.2)
def gT(data:List Nat):Option (List (VT 12×List Nat)×Int):=match f_ [37,80,68,70,45,49,46,52,10] data with
 |none=>N
 |some r=>match g_ (G data) (G r+2) 0 (f9 r)with
  |none=>N
  |some a=>match jX a.1.1.length a.1.2 a.2 with
   |none=>N
   |some c=>match lG a.1.1.length c with
    |none=>N
    |some b=>match lJ (G data-a.2.length) b.2 with
     |none=>N
     |some _=>O (a.1.1,b.1)
def rY(Vs:List (VT 12))(E:List (List Nat))(d:List Nat)(b:Option ((List (VT 12×List Nat)×List Nat)×List Nat)):Option ((List (VT 12)×List (List Nat)×List Nat)×List Nat):=b.map λa=>((Vs++a.1.1.map Prod.fst,E++a.1.1.map Prod.snd,d++a.1.2),a.2)
def KB(c:VT 12×List Nat)(e:Nat)(b:Option ((List (VT 12×List Nat)×List Nat)×List Nat)):rY Vs E d (b.map λa=>((c::a.1.1,e::a.1.2),a.2))=rY (Vs++[c.1]) (E++[c.2]) (d++[e]) b:=by
 cases b with
 |none=>rfl
 |some a=>simp[rY]
def Fi.rebase{j:Gr}{v:Nat}(h:Fi j B bs ao cap data w' q J M X A Vs F E d){k:Gr}(ac:v=w.heap.size)(h1:j.heap.size=w.heap.size+1)(i:LT w.heap.size w j)(K:bs<w.heap.size)(f:gB v w' k):Fi w B bs ao cap data k q J M X A Vs F E d:=by
 have aa:=h.sc.hb;have al:=h.only.size;have b:=λa h1 h2=>f.block a h1 h2;have p:∀{l r o:Nat} {s:GI} {t:List GI},w'.ownsRow j.heap.size l r s o t->k.ownsRow w.heap.size l r s o t:=λ{l r o s t} L=>by
  obtain⟨n,e⟩:=L;refine⟨n,?_⟩;rcases e with e|⟨a,c,x,e1,e2,u,y⟩;·exact P3 e
  ·exact P4 ⟨a,c,x,e1,Y,by rw[b a (ae u) Y];exact u,y⟩
 refine⟨⟨h.sc.hb,by rw[b bs (ae h.sc.blk) Y];exact h.sc.blk,h.sc.dat.other (λa g=>b a Y Y),h.sc.byt,h.sc.len,h.sc.lc,h.sc.le,h.sc.suf,h.sc.ad⟩,?_,K,p h.oo,p h.op,p h.ol,h.len,λm V W Q R=>?_,h.plen,λm T S P D=>(h.pk m T S P D).keep (λa g=>b a Y Y)⟩;·exact⟨f.os.t (h.only.os.t i.os),f.tape.t (h.only.tape.t i.tape),f.output.t (h.only.output.t i.output),by have:=f.size;omega,λa n e=>(b a Y Y).t ((h.only.block a Y e).t (i.block a n))⟩
 ·exact gF.m 12 (gF.keep 12 (h.ch m V W Q R) (λa g z=>b a z Y)) (λa g _=>⟨Y,g.2⟩)
def q9(w:Gr)(B bs:Nat)(ao:Option L2)(cap:Nat)(data:List Nat)(c:Option (List (VT 12×List Nat)×Int))(b:MB)(w':Gr):Prop:=
 match c with
 |some a=>∃J M X A F d q,b=Ps (N1 #[J,I U a.2])/\Fi w B bs ao cap data w' q J M X A (a.1.map Prod.fst) F (a.1.map Prod.snd) d
 |none=>b=gU 4/\gB bs w w'
def q9.none_{a:Option (List (VT 12×List Nat)×Int)}(h:a=N)(k:gB bs w w'):q9 w B bs ao cap data a (gU 4) w':=by subst h;exact⟨rfl,k⟩
def q9.some_{b:Option (List (VT 12×List Nat)×Int)}{a:List (VT 12×List Nat)}{c:Int}(h:b=O (a,c))(k:Fi w B bs ao cap data w' q J M X A (a.map Prod.fst) F (a.map Prod.snd) d):q9 w B bs ao cap data b (Ps (N1 #[J,I U c])) w':=by subst h;exact⟨_,_,_,_,_,_,_,rfl,k⟩
def pj{w:Gr}{b:Nat}{f g:GI}{a:TypeId}(h:w.heap[b]?=O (Pp #[f,g] a (0,0)))(c e:GI):((w.setCell ⟨b,0,N⟩ c).setCell ⟨b,1,N⟩ e).heap[b]?=O (Pp #[c,e] a (0,0)):=by
 rw[lV _ (lV _ h)];rfl
def IG(he:qR B w)(h:Sc B bs ao cap data (Z N 0 0) (Z N 0 0) (Z N 0 0) w data):K8 Qe 98 #[M2 (O ⟨bs,0,N⟩)] w (q9 w B bs ao cap data (gT data)):=by
 have cc:=h.lt;have bq:=h.hb;have ca:=h.env;have ch:=h.len;obtain⟨t,hR⟩:∃t,gT data=t:=⟨_,rfl⟩;rw[hR];have a:=H hR;unfold gT at a;have S:LT w.heap.size w (w.alloc (Pp #[Z N 0 0,I U 0] 31)):=(aq _ _).alloc (ag _) _;have bz:(w.alloc (Pp #[Z N 0 0,I U 0] 31)).heap.size=w.heap.size+1:=eA;have ba:(w.alloc (Pp #[Z N 0 0,I U 0] 31)).heap[w.heap.size]?=O (Pp #[Z N 0 0,I U 0] 31 (0,0)):=bn _ _;obtain⟨D,a9⟩:∃D,w.alloc (Pp #[Z N 0 0,I U 0] 31)=D:=⟨_,rfl⟩;rw[a9]at S bz ba;have H1:L1 (Fi D B bs ao cap data D data (Z N 0 0) (Z N 0 0) (Z N 0 0) [] [] [] [] []):=
  ⟨h.other S,gB.refl _ _,Y,aX _ _ _ _,aX _ _ _ _,aX _ _ _ _,rfl,λcg K b4 m _=>by simp at m,rfl,λcg z cn k _=>by simp at k⟩
 have bf:=H (he.only (bs:=bs) bq ca (.of_below S));have b5:=H S;have bo:=H a9;have a7:=H ba;have HT:=H (vt H1.sc {data:=#[37,80,68,70,45,49,46,52,10]} cO cO);rw[show bl {data:=#[37,80,68,70,45,49,46,52,10]}=[37,80,68,70,45,49,46,52,10]from rfl]at HT;have ac:L1 (∀u:Gr,gB bs D u->gB bs w u):=λu bc=>(gB.of_below S).t bc;clear h he hR S ba a9;cases e1:f_ [37,80,68,70,45,49,46,52,10] data with
 |none=>
  rw[e1]at HT a;have i:L1 (t=N):=a.o.s;clear a
  go_in
  go_wp2_with fail;rw[bo.o];apply HT.o.m;rintro c w2 ⟨rfl,h2,k2⟩;have K2:=H (ac _ k2);clear h2 k2;go_wp2_with fail;apply(nZ _).m;rintro c w' ⟨rfl,y⟩;have y:=y.s;subst y;exact⟨rfl,.none_ i K2⟩
 |some r=>
  have hr:=(gD e1).1;rw[e1]at HT a;simp only[]at a;clear e1
  go_in
  go_wp2_with fail;rw[bo.o];apply HT.o.m;rintro c w2 ⟨rfl,h2,k2⟩;have H2:=H (H1.step (show Sc B bs ao cap data _ _ _ w2 r from h2) k2);have a6:=H (EN H2.sc);go_wp2_with fail;apply(oe _).m;rintro c w' ⟨rfl,y⟩;have y:=y.s;subst y;go_wp2_with fail;apply a6.o.m;rintro c w3 ⟨rfl,h3,k3⟩;have H3:=H (H2.step h3 k3);have cl:=iz r;have P:L1 (rY [] [] [] (g_ (G data) (G r+2) 0 (f9 r))=(g_ (G data) (G r+2) 0 (f9 r)).map λg=>((g.1.1.map Prod.fst,g.1.1.map Prod.snd,g.1.2),g.2)):=by unfold Hid rY;cases g_ (G data) (G r+2) 0 (f9 r)<;>simp
  obtain⟨s,br⟩:∃s,rY [] [] [] (g_ (G data) (G r+2) 0 (f9 r))=s:=⟨_,rfl⟩;rw[br]at P;have Q:=H br;go_wp2;go_loopw [14] (λ_ wr=>∃(j:Nat) (b:List Nat) (J M X:GI) (A:List GI) (Vs:List (VT 12)) (F:List GI) (E:List (List Nat)) (d:List Nat),L1 (Fi D B bs ao cap data wr b J M X A Vs F E d)/\G b<j/\G d+G b<=200000/\L1 (G A=G d/\G F=G d/\∀z∈d,z<=200000)/\L1 (rY Vs E d (g_ (G data) j (G d) b)=s)) (λ_ wr=>G data-posS bs wr)
  case atStart=>exact⟨G r+2,f9 r,_,_,_,_,_,_,_,_,H3,Y,by simp only[aI];omega,⟨rfl,rfl,λz k=>by cases k⟩,Q⟩
  case round=>
   obtain⟨j,b,J,M,X,A,Vs,F,E,d,l,hf,cb,p,Q⟩:=hrel;obtain⟨j,rfl⟩:∃f',j=f'+1:=⟨j-1,Y⟩;have bi:=H l.sc.posS;have cj:=l.o.sc.le;have o:=H (EM l.sc {data:=#[120,114,101,102]} cO cO);rw[show bl {data:=#[120,114,101,102]}=[120,114,101,102]from rfl]at o;cases m:([120,114,101,102]:List Nat).isPrefixOf b with
   |true=>
    rw[m]at o;have bt:s=O ((Vs,E,d),b):=by rw[<-Q.o];unfold g_ rY;rw[ai m];simp
    rw[bt]at P;cases W:g_ (G data) (G r+2) 0 (f9 r)with
    |none=>have:=P.o;rw[W]at this;cases this
    |some g=>
     obtain⟨⟨xs,pz⟩,qz⟩:=g;have bb:=P.o;rw[W]at bb a;simp at bb;obtain⟨⟨hV,hP,rfl⟩,rfl⟩:=bb;simp only[]at a;have bm:=H (And.intro hV hP);have b0:G xs=G A:=by have:=l.o.len;rw[this,hV,aw]
     obtain⟨f,hn⟩:∃f,G A=f:=⟨_,rfl⟩;rw[b0,hn]at a;have bw:f<=200000:=by have:=p.o.1;omega
     have HN:=H hn;clear W m bt P Q b0 hV hP hn;go_wp2_with fail;apply o.o.m;rintro c w4 ⟨rfl,m4,ad⟩;have e:=H (l.below (show LT wr.heap.size wr w4 by rw[ad];exact u_ _ _));clear ad o l bi;obtain⟨tb,a8⟩:∃tb,G data-G b=tb:=⟨_,rfl⟩;rw[a8]at a;have c1:w4.cell? ⟨bs,1,N⟩=O (I U tb):=by rw[<-a8];exact e.sc.c1
     have ce:tb<=200000:=Y;obtain⟨oa,oc,a4⟩:=jp e.o.oo;rw[HN.o]at a4;have a5:L1 (∀u:Gr,gB bs D u->qR B u):=λu bc=>bf.o.only bq Y bc;have al:=H (Lg (a5 _ e.o.only) e.sc (n:=f) a4 bw p.2.2 Y e.o.ol e.lt);clear a8;cases x:jX f d b with
     |none=>rw[x]at al a;have i:L1 (t=N):=a.o.s;clear a;go_wp2_with fail;apply al.o.m;rintro c w5 ⟨rfl,k5⟩;exact⟨rfl,.none_ i (ac _ (e.o.only.t k5))⟩
     |some q2=>
      rw[x]at al a;simp only[]at a;go_wp2_with fail;apply al.o.m;rintro c w5 ⟨rfl,T,k5⟩;have L:=H (e.step T k5);have a0:=H (PM (a5 _ L.o.only) L.sc (n:=f) a4 bw);cases e6:lG f q2 with
      |none=>rw[e6]at a0 a;have i:L1 (t=N):=a.o.s;go_wp2_with fail;apply a0.o.m;rintro c w6 ⟨rfl,k6⟩;exact⟨rfl,.none_ i (ac _ (L.o.only.t k6))⟩
      |some b4=>
       obtain⟨bd,q3⟩:=b4;rw[e6]at a0 a;simp only[]at a;go_wp2_with fail;apply a0.o.m;rintro c w6 ⟨_,rfl,bx,h6,k6⟩;unfold Cv at bx;subst bx;have n:=H (L.step h6 k6);have aa:=H (LZ (a5 _ n.o.only) n.sc tb ce);cases e7:lJ tb q3 with
       |none=>rw[e7]at aa a;have i:L1 (t=N):=a.o.s;clear a;go_wp2_with fail;apply aa.o.m;rintro c w7 ⟨rfl,k7⟩;exact⟨rfl,.none_ i (ac _ (n.o.only.t k7))⟩
       |some q4=>
        rw[e7]at aa a;simp only[]at a;go_wp2_with fail;apply aa.o.m;rintro c w7 ⟨rfl,h7,k7⟩;have H7:=H (n.step h7 k7);have V:w7.heap[w.heap.size]?=O (Pp #[Z N 0 0,I U 0] 31 (0,0)):=by rw[H7.o.only.block _ (ae a7.o) Y];exact a7
        have c2:=H7.o.sc.c2;have r0:=mC V;have r1:=n5 V;have f0:=jR 0 V;have f1:=jR 1 V;have b9:=H V;subst a4;clear h7 k7 aa n e7 V a7;go_wp2;have hf:=pj b9 (Z oa f oc) (I U bd);have ho:gB w.heap.size w7 ((w7.setCell ⟨w.heap.size,0,N⟩ (Z oa f oc)).setCell ⟨w.heap.size,1,N⟩ (I U bd)):=((gB.refl _ w7).setCell 0 _).setCell 1 _;refine av (v:=N1 #[Z oa f oc,I U bd]) ?_ rfl ?_;·exact aE results98 _ _ w.heap.size 31 _ _ _ rfl hf cM rfl aG
        have bv:=H7.o.rebase (w:=w) rfl bz b5 cc ho;rw[bm.o.1,bm.o.2]at bv;exact .some_ a.s bv
   |false=>
    rw[m]at o;have R:L1 (rY Vs E d (match jS (G d+1) b with|none=>N|some (K,q)=>(g_ (G data) j (G d+1) (f9 q)).map λg=>((K::g.1.1,(G data-G b)::g.1.2),g.2))=s):=by unfold Hid;rw[<-Q.o];conv=>rhs;rw[g_,ah (by rw[m];decide)]
    clear m Q;go_wp2_with fail;apply o.o.m;rintro c w4 ⟨rfl,m4,ad⟩;have e:=H (l.below (show LT wr.heap.size wr w4 by rw[ad];exact u_ _ _));clear ad o l;have HB:=H (Na bf e cb p.1 p.2.1);cases x:jS (G d+1) b with
    |none=>
     rw[x]at HB R;have i:L1 (t=N):=by
      unfold Hid;have h1:s=N:=R.o.s;have h2:=P.o;rw[h1]at h2;cases W:g_ (G data) (G r+2) 0 (f9 r)with
      |none=>rw[<-a.o,W]
      |some g=>rw[W]at h2;cases h2
     go_wp2_with fail;apply HB.o.m;rintro c w5 ⟨rfl,k5⟩;exact⟨rfl,.none_ i (ac _ k5)⟩
    |some K=>
     obtain⟨K,q5⟩:=K;have ci:=nU x;have ck:=iz q5;rw[x]at HB R;simp only[]at R;rw[KB]at R;clear x;go_wp2_with fail;apply HB.o.m;rintro c w5 ⟨rfl,cp,cr,co,b3,b2,T⟩;have cf:G b3=G d+1:=by have a1:=T.len;have a2:=e.o.len;have a3:=p.o.1;rw[ak]at a1;simp at a1;omega
     have cd:G b2=G d+1:=by have a1:=T.plen;have a2:=e.o.plen;have a3:=p.o.2.1;rw[ak]at a1;simp at a1;omega
     have a6:=H (EN T.sc);have L:=H T;have b6:L1 (G b3=(d++[G data-G b]).length/\G b2=(d++[G data-G b]).length/\∀z∈d++[G data-G b],z<=200000):=by
      refine⟨by simp[cf],by simp[cd],λz k=>?_⟩;rcases bG.1 k with k|k;·exact p.2.2 z k
      ·simp at k;omega
     have b8:L1 (rY (Vs++[K.1]) (E++[K.2]) (d++[G data-G b]) (g_ (G data) j (d++[G data-G b]).length (f9 q5))=s):=by unfold Hid;rw[ak];exact R
     go_wp2_with fail;apply a6.o.m;rintro c w6 ⟨rfl,h6,k6⟩;have n:=H (L.step h6 k6);have b7:=H h6.posS;go_wp2;go_roundw
     case rel=>exact⟨j,f9 q5,_,_,_,_,_,_,_,_,n,Y,by simp only[ak,aj,aI];omega,b6,b8⟩
     case measure=>rw[bi.o,b7.o];omega
end
def mL.fewf:∀{k:Nat} {a:VT k},mL 200000 a->qv a
 |0,_,_=>trivial
 |k+1,a,h=>⟨h.1,h.2.1,by rw[h.2.2.2.2.1];exact aH _,λc b=>mL.fewf (h.2.2.2.2.2 c b)⟩
def wG:∀(a:List (Nat×List Nat)) (r:List Nat),kC a=O r->G r<=G a
 | [],r,h=>by cases h;exact ag _
 |d::a,r,h=>by
  simp only[kC]at h;split at h
  ·cases b:kC a with
   |none=>rw[b]at h;cases h
   |some c=>rw[b]at h;cases h;have:=wG a c b;simp only[aj];omega
  ·cases h
def og{k:Nat}{a e:gk (VT k)}(d:mL 200000 (k:=k+1) a)(h:jg a=O e):qv (k:=k+1) e:=by
 unfold jg at h;cases c:ii a with
 |none=>rw[c]at h;cases h
 |some f=>
  rw[c]at h;cases h;have g:(h_ (a.keys.zip a.items)).length<=200000:=aA (qi _) (by rw[fp];have h1:=d.1;omega);refine⟨by show((h_ (a.keys.zip a.items)).map Prod.snd).length<=_;rw[aw];exact g,by show((h_ (a.keys.zip a.items)).map Prod.fst).length<=_;rw[aw];exact g,?_,?_⟩
  ·show (G f)<=200000;unfold ii at c;cases e2:jK a with
   |none=>rw[e2]at c;cases c
   |some l=>rw[e2]at c;have h1:=wG l f c;have h2:=IM (mL.few (k:=k+1) d) e2;omega
  ·intro m i;have j:m∈((h_ (a.keys.zip a.items)).map Prod.snd):=i;obtain⟨⟨n,b⟩,h1,rfl⟩:=cT.1 j;have h3:=(fq (List.mem_filter.1 h1).1).2;exact mL.fewf (d.2.2.2.2.2 _ h3)
def o_{r e:List Nat}{b:VT 12×List Nat}(h:iY r=O (b,e))(d:G r<=200000):qv b.1:=by
 unfold iY at h;split at h;·cases h
 ·next g i e1=>
  have a:=l_ e1 d;split at h
  ·split at h
   ·next j e2=>
    unfold ju at h;split at h;·cases h
    ·split at h;·cases h
     ·split at h
      ·split at h;·cases h
       ·split at h
        ·split at h;·cases h
         ·next f c=>cases h;exact og (k:=11) a c
        ·cases h
      ·cases h
   ·cases h;exact mL.fewf a
  ·cases h;exact mL.fewf a
def zS{c:Nat}{r d:List Nat}{a:VT 12×List Nat}(h:jS c r=O (a,d))(e:G r<=200000):qv a.1:=by
 unfold jS at h;split at h;·cases h
 ·next f e1=>
  split at h;·cases h
  ·next g e2=>
   split at h;·cases h
   ·next i b=>
    split at h;·cases h
    ·next k j e4=>
     split at h;·cases h
     ·cases h;have:=gQ e1;have:=gQ e2;have:=gQ b;exact o_ e4 Y
def wW(len:Nat):∀(d a:Nat) (r:List Nat) (b:(List (VT 12×List Nat)×List Nat)×List Nat),g_ len d a r=O b->G r<=200000->b.1.1.length+b.2.length<=G r/\∀g∈b.1.1,qv g.1
 |0,a,r,b,h,_=>by cases h
 |d+1,a,r,b,h,j=>by
  rw[g_]at h;split at h;·cases h;exact⟨eA,λg k=>by cases k⟩
  ·cases c:jS (a+1) r with
   |none=>rw[c]at h;cases h
   |some i=>
    obtain⟨g,f⟩:=i;rw[c]at h;simp only[]at h;have h1:=nU c;have h2:=zS c j;have h3:=iz f;cases e2:g_ len d (a+1) (f9 f)with
    |none=>rw[e2]at h;cases h
    |some m=>
     rw[e2]at h;cases h;have l:=wW len d (a+1) (f9 f) m e2 Y;refine⟨by simp only[aj];omega,λi e=>?_⟩;rcases cQ.1 e with rfl|e;·exact h2
     ·exact l.2 i e
def n7{b:List Nat}{a:List (VT 12×List Nat)×Int}(h:gT b=O a)(e:G b<=200000):a.1.length<=200000/\∀c∈a.1,qv c.1:=by
 unfold gT at h;split at h;·cases h
 ·next r e1=>
  have h1:=(gD e1).1;have h2:=iz r;split at h;·cases h
  ·next d e2=>
   have h3:=wW _ _ _ _ _ e2 Y;split at h;·cases h
   ·split at h;·cases h
    ·split at h;·cases h
     ·cases h;exact⟨by show d.1.1.length<=200000;omega,h3.2⟩
def lg(b:List Nat):Option (List (VT 12)×Int):=match gT b with
 |none=>N
 |some a=>if jb (a.1.map Prod.fst) a.2=PV then O (a.1.map Prod.fst,a.2)else N
section
variable{w w':Gr}
def qG(w:Gr)(e:Option (List (VT 12)×Int))(a:MB)(w':Gr):Prop:=
 LT w.heap.size w w'/\match e with
  |some c=>∃b,a=Ps (N1 #[b,I U c.2])/\kG (λd=>w.heap.size<=d) 12 w.heap.size c.1 w' b
  |none=>a=gU 4
def qG.none_{a:Option (List (VT 12)×Int)}(b:LT w.heap.size w w')(h:a=N):qG w a (gU 4) w':=by subst h;exact⟨b,rfl⟩
def qG.some_{a:Option (List (VT 12)×Int)}{Vs:List (VT 12)}{d:Int}{c:GI}(b:LT w.heap.size w w')(h:a=O (Vs,d))(f:kG (λe=>w.heap.size<=e) 12 w.heap.size Vs w' c):qG w a (Ps (N1 #[c,I U d])) w':=by subst h;exact⟨b,_,rfl,f⟩
def gF.kindCell{j:Nat->Prop}{k:Nat}{i:GI}{a:VT k}(h:gF j k w i a):∃(p q:Int) (r:ByteArray) (m:Option L2) (o n:Nat) (e:Option L2) (g f:Nat) (b:Option L2) (d c:Nat),i=N1 #[I U (kO a:Int),I U p,I U q,MV r,Z m o n,Z e g f,Z b d c]:=by obtain⟨v,s,u,t,e,g,f,b,d,c,l⟩:=gF.form2 h;exact⟨_,_,_,_,_,_,_,_,_,_,_,_,l⟩
def NF{h:Option L2}{i:Nat}{a:List Nat}{cl:Int}(he:qR w.heap.size w)(hd:rX w w.heap.size h a)(bt:∀l,l<G a->nth a l<256)(len:G a<=200000)(lc:G a<=i/\i<=9223372036854775807)(ad:∃bd s,h=O ⟨bd,s,N⟩/\bd<w.heap.size)
  (E:∀u,gT a=O u->jb (u.1.map Prod.fst) u.2=PV->∀p∈u.1,kO p.1≠8):K8 Qe 66 #[Z h (G a) i,I U cl] w (qG w (lg a)):=by
 obtain⟨M,hR⟩:∃M,lg a=M:=⟨_,rfl⟩;rw[hR];have f:=H hR;unfold lg at f;have t:LT w.heap.size w ((w.alloc (Pp #[Z N 0 0,I U 0] 31)).alloc (Pp #[Z h (G a) i,I U 0,Z N 0 0,Z N 0 0,Z N 0 0] 131)):=((aq _ _).alloc (ag _) _).alloc eA _;have ci:((w.alloc (Pp #[Z N 0 0,I U 0] 31)).alloc (Pp #[Z h (G a) i,I U 0,Z N 0 0,Z N 0 0,Z N 0 0] 131)).heap.size=w.heap.size+2:=eA;have a6:((w.alloc (Pp #[Z N 0 0,I U 0] 31)).alloc (Pp #[Z h (G a) i,I U 0,Z N 0 0,Z N 0 0,Z N 0 0] 131)).heap[w.heap.size]?=O (Pp #[Z N 0 0,I U 0] 31 (0,0)):=mA _ (bn _ _);have a8:((w.alloc (Pp #[Z N 0 0,I U 0] 31)).alloc (Pp #[Z h (G a) i,I U 0,Z N 0 0,Z N 0 0,Z N 0 0] 131)).heap[w.heap.size+1]?=O (Pp #[Z h (G a) i,I U 0,Z N 0 0,Z N 0 0,Z N 0 0] 131 (0,0)):=by have:=bn (w.alloc (Pp #[Z N 0 0,I U 0] 31)) (Pp #[Z h (G a) i,I U 0,Z N 0 0,Z N 0 0,Z N 0 0] 131);rw[aL]at this;exact this
 obtain⟨F,a4⟩:∃F,(w.alloc (Pp #[Z N 0 0,I U 0] 31)).alloc (Pp #[Z h (G a) i,I U 0,Z N 0 0,Z N 0 0,Z N 0 0] 131)=F:=⟨_,rfl⟩;rw[a4]at t ci a6 a8;have bz:Sc w.heap.size (w.heap.size+1) h i a (Z N 0 0) (Z N 0 0) (Z N 0 0) F a:=
  ⟨fX _,by rw[a8,dN];rfl,hd.other (λb q=>t.block b q),bt,len,lc,ag _,by rw[dN];rfl,ad⟩
 have bv:=he.only (bs:=w.heap.size+1) (fX _) (ag _) (.of_below t);have K:=H (IG bv bz);have bi:=H a4;have al:=H a6;have ba:=H (λu (hz:gT a=O u)=>n7 hz len);have bb:=H E;have a9:L1 (∀a1:Gr,gB (w.heap.size+1) F a1->LT w.heap.size w a1):=λa1 s=>⟨s.os.t t.os,s.tape.t t.tape,s.output.t t.output,by have:=s.size;omega,λb q=>(s.block b Y Y).t (t.block b q)⟩;clear hR hd bt lc ad E he bz bv t a6 a8 a4;generalize cd:G a=dl at *;clear cd len;cases e1:gT a with
 |none=>
  rw[e1]at K f;have aa:L1 (M=N):=f.o.s;clear f
  go_in
  go_wp2_with fail;rw[bi.o];apply K.o.m;rintro P g ⟨rfl,X⟩;exact⟨rfl,.none_ (a9 _ X) aa⟩
 |some u=>
  obtain⟨C,e⟩:=u;have T:=ba.o _ e1;have E:=bb.o _ e1;rw[e1]at K f;simp only[]at f T E;clear e1 ba bb
  go_in
  go_wp2_with fail;rw[bi.o];apply K.o.m;rintro P g ⟨ov,pv,lv,vs,ps,co,cp,rfl,h3⟩;have H3:=H h3;have a2:=a9.o _ h3.only;obtain⟨n,o,a3⟩:=jp h3.oo;have b0:G vs=(C.map Prod.fst).length:=h3.len;rw[b0]at a3;obtain⟨j,V⟩:∃j,(C.map Prod.fst).length=j:=⟨_,rfl⟩;rw[V]at a3;have cg:j<=200000:=by rw[<-V,aw];exact T.1
  have bc:L1 (kG (λb=>F.heap.size<=b) 12 F.heap.size (C.map Prod.fst) g ov):=⟨vs,h3.oo,h3.len,λl p d r k=>gF.m 12 (h3.ch l p d r k) (λb q _=>q.1)⟩;have b8:L1 (jb (C.map Prod.fst) e=PV->∀d∈C.map Prod.fst,kO d≠8):=λcf d k=>by obtain⟨p,r,rfl⟩:=cT.1 k;exact E cf p r
  have b7:L1 (∀d∈C.map Prod.fst,qv d):=λd k=>by obtain⟨p,r,rfl⟩:=cT.1 k;exact T.2 p r
  have b1:g.heap[w.heap.size]?=O (Pp #[Z N 0 0,I U 0] 31 (0,0)):=by rw[h3.only.block _ (ae al.o) Y];exact al
  subst a3;generalize C.map Prod.fst=Vs at *;have HN:=H V;have b4:LT g.heap.size g (g.alloc (Pp #[Z n j o,I U e] 31)):=(aq _ _).alloc (ag _) _;have W:(g.alloc (Pp #[Z n j o,I U e] 31)).heap[g.heap.size]?=O (Pp #[Z n j o,I U e] 31 (0,0)):=bn _ _;have a7:(g.alloc (Pp #[Z n j o,I U e] 31)).heap[w.heap.size]?=O (Pp #[Z N 0 0,I U 0] 31 (0,0)):=mA _ b1;have J:=H (a2.t (b4.m a2.size));have ac:=H (bc.keep b4);have L:=H (yC (root:=e) ac.base b7 (by rw[HN.o];exact cg));obtain⟨w4,a5⟩:∃w4,g.alloc (Pp #[Z n j o,I U e] 31)=w4:=⟨_,rfl⟩;rw[a5]at W a7 J ac L;have bm:=H a5;have br:=H W;have bo:=H a7;have cj:=ae W;clear h3 H3 a2 b0 V T E b1 K bc b4 W a7 a5 al;cases e2:jb Vs e with
  |false=>
   rw[e2]at L f;have aa:L1 (M=N):=f.o.s;clear f;have d0:=mC br;go_wp2_with fail;try rw[bm.o]
   apply L.o.m;rintro P w5 ⟨rfl,y⟩;have S:=H (J.t (y.m J.size));clear y;go_wp2_with fail;apply(nZ _).m;rintro P w' ⟨rfl,A⟩;have A:=A.s;subst A;exact⟨rfl,.none_ S aa⟩
  |true=>
   rw[e2]at L f;have ca:L1 (M=O (Vs,e)):=f.o.s;have b9:=H (b8 e2);clear f;go_wp2_with fail;try rw[bm.o]
   apply L.o.m;rintro P w5 ⟨rfl,y⟩;have S:=H (J.t (y.m J.size));have bf:=H (ac.keep y);have a0:L1 (w5.heap[g.heap.size]?=O (Pp #[Z n j o,I U e] 31 (0,0))):=by unfold Hid;rw[y.block _ cj];exact br
   have bq:=H ((y.block _ (ae bo)).t bo);have ck:=ae a0;go_wp2_with fail;apply(oe _).m;rintro P w' ⟨rfl,A⟩;have A:=A.s;subst A;have d0:=mC a0;go_wp2;go_loopw [21] (λl wr=>∃(m:Nat),m<=j/\l=I U m/\L1 (LT w5.heap.size w5 wr)) (λl _=>j-(intOf l).toNat)
   case atStart=>exact⟨0,aH _,rfl,aq _ _⟩
   case round=>
    obtain⟨m,Q,rfl,x⟩:=hrel;rcases aV Q with Q|Q
    ·subst Q;have b3:wr.heap[g.heap.size]?=O (Pp #[Z n m o,I U e] 31 (0,0)):=by rw[x.o.block _ ck];exact a0
     have R:=(x.block _ (ae bq)).t bq;have v0:=mC b3;have v1:=n5 b3;have r0:=mC R;have r1:=n5 R;have f0:=jR 0 R;have f1:=jR 1 R;have cb:=H R;go_wp2;have hf:=pj cb (Z n m o) (I U e);have z:gB w.heap.size wr ((wr.setCell ⟨w.heap.size,0,N⟩ (Z n m o)).setCell ⟨w.heap.size,1,N⟩ (I U e)):=((gB.refl _ wr).setCell 0 _).setCell 1 _;refine av (v:=N1 #[Z n m o,I U e]) ?_ rfl ?_;·exact aE results66 _ _ w.heap.size 31 _ _ _ rfl hf cM rfl aG
     have D:=S.o.t (x.o.m S.size);refine .some_ ⟨z.os.t D.os,z.tape.t D.tape,z.output.t D.output,aA D.size z.size,λb q=>(z.block b (by have:=D.size;omega) Y).t (D.block b q)⟩ ca ?_;obtain⟨ys,k1,k2,X⟩:=bf.o.keep x;refine⟨ys,?_,k2,λl p d r k=>gF.m 12 (gF.keep 12 (X l p d r k) (λb q ce=>z.block b ce Y)) (λb q _=>Y)⟩;obtain⟨j1,j2⟩:=k1;refine⟨j1,?_⟩;rcases j2 with j2|⟨b,c,cc,e1,e2,hh,hc⟩;·exact P3 j2
     ·exact P4 ⟨b,c,cc,e1,Y,by rw[z.block b (ae hh) Y];exact hh,hc⟩
    ·obtain⟨d,k⟩:∃d,Vs[m]?=O d:=⟨_,af (by rw[HN.o];exact Q)⟩;obtain⟨b,c,p,bx,_,_,r,B⟩:=(bf.keep x).at k;rw[HN.o]at bx;cases bx;have cn:=b9.o d (cI k);obtain⟨k1,k2,X,ja,jl,jc,ka,kl,kc,fa,fl,fc,rfl⟩:=gF.kindCell r;have e0:wr.cell? ⟨b,m*7,N⟩=O (I U (kO d:Int)):=B 0 _ rfl;have e1:=B 1 _ rfl;have e2:=B 2 _ rfl;have e3:=B 3 _ rfl;have e4:=B 4 _ rfl;have e5:=B 5 _ rfl;have e6:=B 6 _ rfl;have t8:((kO d:Int)==8)=P2:=eB;have b6:=H (λs:Obj=>x.alloc x.size s);generalize (kO d:Int)=ky at *;go_wp2;go_roundw
     case rel=>exact⟨m+1,Y,by first|rfl|(congr 1),b6 _⟩
     case measure=>simp[intOf];omega
end
section
variable{w:Gr}
def Oh(a:Int)(w:Gr):(Instr.typeAssert (.iface 58 (I U a)) 20 58 PV).run Qe w=.ok (OW #[I U a,OV PV]) w:=by kernel_rfl
def Ov(a k:Int)(w:Gr):K8 Qe 65 #[.iface 58 (I U a),I U k] w λb c=>b=Ps (I U a)/\c=w:=by
 have d:=Oh a
 go_in
 go_wp2;go_ret;exact⟨rfl,rfl⟩
def NQ(d e:L2)(w:Gr):CallsD Qe 64 #[M2 (O d),M2 (O e)] .returning w λb f g=>b=Ps (OW #[])/\f=.returning/\g=w:=by
 refine callsD_of_wpS func64 rfl λa h c=>?_;apply wpS_seq;apply wpS_region;simp[wpOpsS,go_sem,recoverD,c,ntmps64,Exit.thenS,Array.replicate];refine wpS_of_wp ?_;go_wp2;cases a
 simp_all [bodyPostS,results,results64]
def rp(b:Nat)(a:Int)(d:List PanicEntry)(w:Gr)(h i j:GI)(p:w.cell? ⟨b,0,N⟩=O h)(h1:w.cell? ⟨b,1,N⟩=O i)(h2:w.cell? ⟨b+1,0,N⟩=O j)(m:w.frozen? ⟨b,0,N⟩=P2)(n:w.frozen? ⟨b,1,N⟩=P2)(o:w.frozen? ⟨b+1,0,N⟩=P2):CallsD Qe 64 #[M2 (O ⟨b,0,N⟩),M2 (O ⟨b+1,0,N⟩)] (.panicking ({ v:=.iface 58 (I U a),recovered:=P2 }::d)) w λc g e=>c=Ps (OW #[])/\g=.panicking ({ v:=.iface 58 (I U a),recovered:=PV }::d)/\e=((w.setCell ⟨b,0,N⟩ (Z N 0 0)).setCell ⟨b,1,N⟩ (I U 0)).setCell ⟨b+1,0,N⟩ (I U a):=by
 refine callsD_of_wpS func64 rfl λl k f=>?_;apply wpS_seq;apply wpS_region;simp[wpOpsS,go_sem,recoverD,f,ntmps64,Exit.thenS,Array.replicate];refine wpS_of_wp ?_;go_wp2_with (go_at_call 65;apply(Ov _ _ _).m;rintro c e ⟨rfl,rfl⟩);simp[bodyPostS,results,results64]
def EV(w:Gr)(f:Option (List (VT 12)×Int))(a:MB)(c:Gr):Prop:=
 LT w.heap.size w c/\match f with
  |some d=>∃b,a=Ps (OW #[N1 #[b,I U d.2],I U 0])/\kG (λe=>w.heap.size<=e) 12 w.heap.size d.1 c b
  |none=>a=Ps (OW #[N1 #[Z N 0 0,I U 0],I U 4])
def JQ(t:Option L2)(u l:Nat)(p:Nat)(hm:p<=1000000)(hd:l<=200000)(i:List (VT 12))(q:Int)
  (g:∀j:Gr,LT w.heap.size w j->K8 Qe 66 #[Z t l u,I U p] j (qG j (O (i,q)))):K8 Qe 25 #[Z t l u,I U p] w (EV w (O (i,q))):=by
 have k:LT w.heap.size w ((w.alloc (Pp #[Z N 0 0,I U 0] 31)).alloc (Pp #[I U 0] 58)):=((aq _ _).alloc (ag _) _).alloc eA _;have z:=H (g _ k);have y:=H k;clear g k;go_enter_defers func25,ntmps25;go_wp2_with (go_at_call 63;apply(ou _ _ _ _ Y Y).m;rintro v w' ⟨rfl,rfl⟩);apply z.o.m;rintro v h ⟨b,ov,rfl,d⟩;obtain⟨W,X,rfl⟩:=d.len;have e:h.heap[w.heap.size]?=O (Pp #[Z N 0 0,I U 0] 31 (0,0)):=by rw[b.block _ eB];exact mA _ (bn _ _)
 have r:h.heap[w.heap.size+1]?=O (Pp #[I U 0] 58 (0,0)):=by rw[b.block _ eA];have:=bn (w.alloc (Pp #[Z N 0 0,I U 0] 31)) (Pp #[I U 0] 58);rw[aL]at this;exact this
 have C:=mC e;have D:=n5 e;have E:=mC r;have f0:=jR 0 e;have f1:=jR 1 e;have f2:=jR 0 r;have A:=H d;have s:=H b;clear d b e r;generalize (G i)=V at *;go_wp2;refine leaves_cons (f:= 64) (args:=#[M2 (O ⟨w.heap.size,0,N⟩),M2 (O ⟨w.heap.size+1,0,N⟩)]) eA (by simp[go_sem]) ?_;apply(NQ ⟨w.heap.size,0,N⟩ ⟨w.heap.size+1,0,N⟩ _).m;rintro v u' ad ⟨rfl,rfl,rfl⟩;simp[Leaves,settle,results,results25,go_sem,C,D,E];have K:((w.alloc (Pp #[Z N 0 0,I U 0] 31)).alloc (Pp #[I U 0] 58)).heap.size=w.heap.size+2:=eA;have b:=s.o;have d:=A.o;rw[K]at b d;have B:=y.o.t (s.o.m Y);have x:∀a,w.heap.size+2<=a->(((h.setCell ⟨w.heap.size,0,N⟩ (Z W V X)).setCell ⟨w.heap.size,1,N⟩ (I U q)).setCell ⟨w.heap.size+1,0,N⟩ (I U 0)).heap[a]?=h.heap[a]?:=λa m=>by rw[kW _ (by show a≠w.heap.size+1;omega),kW _ (by show a≠w.heap.size;omega),kW _ (by show a≠w.heap.size;omega)]
 refine⟨((B.setCell eA _).setCell eA _).setCell eA _,_,rfl,?_⟩;obtain⟨ys,R,S,T⟩:=d;refine⟨ys,?_,S,λP aa ac L M=>gF.m 12 (gF.keep 12 (T P aa ac L M) (λa m _=>x a m)) (λa m _=>Y)⟩;obtain⟨Q,n⟩:=R;refine⟨Q,?_⟩;rcases n with n|⟨a,c,F,e1,e2,J,g⟩;·exact P3 n
 ·exact P4 ⟨a,c,F,e1,Y,by rw[x a e2];exact J,g⟩
def NY(h:Option L2)(l d:Nat)(g:Nat)(z:g<=1000000)(y:d<=200000)
  (n:∀b:Gr,LT w.heap.size w b->K8 Qe 66 #[Z h d l,I U g] b (qG b N)):K8 Qe 25 #[Z h d l,I U g] w (EV w N):=by
 have c:LT w.heap.size w ((w.alloc (Pp #[Z N 0 0,I U 0] 31)).alloc (Pp #[I U 0] 58)):=((aq _ _).alloc (ag _) _).alloc eA _;have s:=H (n _ c);have r:=H c;clear n c;go_enter_defers func25,ntmps25;go_wp2_with (go_at_call 63;apply(ou _ _ _ _ Y Y).m;rintro m B ⟨rfl,rfl⟩);apply s.o.m;rintro m p ⟨e,rfl⟩;have a:p.heap[w.heap.size]?=O (Pp #[Z N 0 0,I U 0] 31 (0,0)):=by rw[e.block _ eB];exact mA _ (bn _ _)
 have q:p.heap[w.heap.size+1]?=O (Pp #[I U 0] 58 (0,0)):=by rw[e.block _ eA];have:=bn (w.alloc (Pp #[Z N 0 0,I U 0] 31)) (Pp #[I U 0] 58);rw[aL]at this;exact this
 have i:=mC a;have j:=n5 a;have k:=mC q;have u:=jR 0 a;have v:=jR 1 a;have x:=jR 0 q;refine leaves_cons (f:= 64) (args:=#[M2 (O ⟨w.heap.size,0,N⟩),M2 (O ⟨w.heap.size+1,0,N⟩)]) eA (by simp[go_sem]) ?_;apply(rp w.heap.size 4 [] _ _ _ _ i j k u v x).m;rintro m A C ⟨rfl,rfl,rfl⟩;simp[Leaves,settle,results,results25,go_sem,i,j,k];have t:=r.o.t (e.m eB);exact⟨((t.setCell eA _).setCell eA _).setCell eA _,rfl⟩
def Gf{e:Option L2}{cap:Nat}{a:List Nat}{most:Nat}(l:most<=1000000)(r:qR w.heap.size w)(q:rX w w.heap.size e a)(n:∀j,j<G a->nth a j<256)(len:G a<=200000)(v:G a<=cap/\cap<=9223372036854775807)(m:∃f g,e=O ⟨f,g,N⟩/\f<w.heap.size)
  (u:∀d,gT a=O d->jb (d.1.map Prod.fst) d.2=PV->∀x∈d.1,kO x.1≠8):K8 Qe 25 #[Z e (G a) cap,I U most] w (EV w (lg a)):=by
 have i:∀h:Gr,LT w.heap.size w h->K8 Qe 66 #[Z e (G a) cap,I U most] h (qG h (lg a)):=λh b=>by
  have c:=r.only (bs:=w.heap.size) (ag _) (ag _) (.of_below b);have h1:=b.size;refine NF ⟨⟨c.err.syn,c.err.rng,c.err.mx,aQ c.err.ls h1,aQ c.err.lr h1,aQ c.err.lm h1⟩,c.pow,aQ c.lp h1⟩ (λj t=>?_) n len v ?_ u
  ·obtain⟨f,g,e1,e2,o⟩:=q.other (λp s=>b.block p s) j t;exact⟨f,g,e1,Y,o⟩
  ·obtain⟨f,g,e1,e2⟩:=m;exact⟨f,g,e1,Y⟩
 cases k:lg a with
 |none=>rw[k]at i;exact NY e cap (G a) most l len i
 |some d=>rw[k]at i;exact JQ e cap (G a) most l len d.1 d.2 i
end
section
variable{w d:Gr}
def gF.split{b:Nat->Prop}{k:Nat}{v:GI}{V:gk (VT k)}(h:gF b (k+1) w v V):∃(m:Option L2) (o:Nat) (p:Option L2) (q:Nat) (c:Option L2) (e:Nat),v=N1 #[I U (V.kind:Int),I U V.n,I U (V.places:Int),MV (ge V.text),Z m V.items.length o,Z p V.keys.length q,Z c V.filters.length e] /\
   kG b k 0 V.items w (Z m V.items.length o)/\w.ownsRow 0 9 1 (Z p V.keys.length q) V.keys.length (V.keys.map λs=>MV (ge s))/\w.ownsRow 0 3 1 (Z c V.filters.length e) V.filters.length (V.filters.map λf:Nat=>I U f):=by
 obtain⟨D,E,C,B,rfl,a,i,A,l,g⟩:=h.parts;obtain⟨r,x,rfl⟩:=jp i.1;obtain⟨t,y,rfl⟩:=jp l.1;obtain⟨u,z,rfl⟩:=jp g.1;have j:=i.1;rw[a]at j;exact⟨r,x,t,y,u,z,by rw[a];rfl,⟨B,by rw[a];exact j,a,A⟩,l.1,g.1⟩
def Et{b f j a i c:Nat}{e:Option L2}{k:List GI}(h:w.ownsRow b f j (Z e i c) a k):a<=9223372036854775807:=by
 rcases h.2 with⟨_,rfl⟩|⟨m,c,l,e1,_,o,n,g,_⟩;·omega
 ·simp only[maxLen]at g;omega
def bQ{a:Nat}{b w:Gr}(h:LT a b w)(c:Nat):LT a b (w.drewN c):=h.t ⟨rfl,rfl,rfl,ag _,λ_ _=>rfl⟩
end
def vV(a:List Nat):Prop:=a≠[]/\∀b∈a,pB b=PV
def Dg{b:Nat}(h:pB b=PV):mf b=P2/\n9 b=P2:=by unfold pB at h;simpa using h
def ph{b c:Nat}(h:pB b=PV)(a:pB c=P2):b≠c:=by rintro rfl;rw[h]at a;cases a
def Az{b:Nat}{a:List Nat}(h:pB b=PV):f9 (b::a)=b::a:=oM (Dg h).1 (ph h rfl)
def yg(a r:List Nat):f_ a (a++r)=O r:=by unfold f_;rw[ai eA,List.drop_left]
def rR{b c:Nat}{a d:List Nat}(h:c≠b):f_ (c::a) (b::d)=N:=by unfold f_;rw[ah];simp[List.isPrefixOf,h]
def Af{b:Nat}(h:pB b=PV):b≠91/\b≠60/\b≠40/\b≠47/\b≠93/\b≠62/\b≠37:=
 ⟨ph h rfl,ph h rfl,ph h rfl,ph h rfl,ph h rfl,ph h rfl,ph h rfl⟩
def xC{k:Nat}{a r:List Nat}(e:vV a):gj (k+1) (a++r)=i7 (VT k) (a++r):=by obtain⟨h1,h2⟩:=e;obtain⟨b,a,rfl⟩:=List.exists_cons_of_ne_nil h1;have c:=h2 b (ef ..);obtain⟨f,d,g,h,_⟩:=Af c;unfold gj;rw[cP,Az c,rR f.s,rR d.s,rR d.s,rR g.s,rR h.s]
section
variable{w a:Gr}
def tC:Nat->Nat->List Nat
 |_,0=>[]
 |b,c+1=>tC (b/10) c++[48+b%10]
def xe:Nat->Nat->List Nat
 |0,b=>tC b 1
 |c+1,b=>if b<10 then tC b 1 else xe c (b/10)++tC (b%10) 1
def yH(b d:List Nat)(c:Nat):List Nat:=xe 18 (c+1)++([32]++(b++([48]++(b++([32,111,98,106]++(b++([10]++(d++([10]++(b++([101,110,100,111,98,106,10]++b)))))))))))
end
def ik(a:List Nat):Nat->List (List Nat)->List Nat
 |_,[]=>[]
 |b,d::c=>yH a d b++ik a (b+1) c
def pD(a:List Nat):Nat->List (List Nat)->Nat->List Nat
 |_,[],_=>[]
 |b,e::d,c=>c::pD a (b+1) d (c+(yH a e b).length)
def BT(a:List Nat):Prop:=∀b∈a,b<256
section
variable{w a:Gr}
def Li{i:Nat}{d:Option L2}{c:List Nat}{e:Nat}(h:rX w i d c):(convert 23 9 (Z d (G c) e)).run Qe w=.ok (MV (ge c)) w:=by
 rcases eg (G c) with f|f
 ·have l:=bM.1 f;subst l;exact IB d e w
 ·obtain⟨b,n,rfl,_,_⟩:=h 0 f;refine AC ⟨b,n,N⟩ e c (λm k=>?_);obtain⟨o,p,j,_,g⟩:=h m k;cases j;unfold Addr.add;split;·next h=>subst h;simpa using g
  ·exact g
end
