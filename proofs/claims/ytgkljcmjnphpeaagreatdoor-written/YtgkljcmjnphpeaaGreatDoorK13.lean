import Derived.Test.YtgkljcmjnphpeaaGreatDoorK12
set_option linter.unusedVariables false
set_option linter.unusedSimpArgs false
set_option maxHeartbeats 2000000
set_option maxRecDepth 100000
namespace Go.Proofs.YtgkljcmjnphpeaaGreatDoor
open Go.RowKit
section
variable{w w':World}
def jy(a:ByteArray):Bool:=decide (a={ data:=#[76,101,110,103,116,104] })||decide (a={ data:=#[70,105,108,116,101,114] })
def gW{a:Type}(c:List (List Nat × a)):List (List Nat × a):=c.filter λb => !jy (gC b.1)
def j_{k:Nat}(a:gz (VT k)):Option (gz (VT k)):=(jx a).map λb=>⟨8,0,0,[],(gW (a.keys.zip a.items)).map Prod.snd,(gW (a.keys.zip a.items)).map Prod.fst,b⟩
theorem ru{e:Type}(b:List (List Nat × e))(a:Nat)(k:List Nat)(d:e)(f:b[a]?=some (k,d)) :
  gW (b.take (a+1))=gW (b.take a)++(if jy (gC k)=true then[]else[(k,d)]):=by
 unfold gW;rw[cP,f,List.filter_append];congr 1;by_cases c:jy (gC k)=true;·simp[c]
 ·simp[c]
theorem qb{b:Type}(a:List (List Nat × b)):(gW a).length<=a.length:=List.length_filter_le _ _
theorem qd{n o:Type}{R:n->o->Prop}:∀(a:List (List Nat)) (e:List n) (f:List o),e.length=f.length->(∀(c:Nat) (g:n) (h:o),e[c]?=some g->f[c]?=some h->R g h) ->
  (gW (a.zip e)).map Prod.fst=(gW (a.zip f)).map Prod.fst/\(gW (a.zip e)).length=(gW (a.zip f)).length/\∀(c:Nat) (g:n) (h:o),((gW (a.zip e)).map Prod.snd)[c]?=some g->((gW (a.zip f)).map Prod.snd)[c]?=some h->R g h
 | [],e,f,_,_=>⟨rfl,rfl,λc g h d=>by simp[gW]at d⟩
 |k::a,[],[],_,_=>⟨rfl,rfl,λc g h d=>by simp[gW]at d⟩
 |k::a,[],h::f,d,_=>by cases d
 |k::a,g::e,[],d,_=>by cases d
 |k::a,g::e,h::f,d,p=>by
  have ih:=qd (R:=R) a e f (by simpa using d) (λc i b l m=>p (c+1) i b (by simpa using l) (by simpa using m));have e1:∀{q:Type} (i:q) (r:List q),gW ((k::a).zip (i::r))=if jy (gC k)=true then gW (a.zip r)else(k,i)::gW (a.zip r):=λi r=>by unfold gW;rw[List.zip_cons_cons,List.filter_cons];by_cases j:jy (gC k)=true<;>simp[j]
  rw[e1,e1];by_cases j:jy (gC k)=true;·rw[aA j,aA j];exact ih
  ·rw[au j,au j];refine⟨by rw[bJ,bJ,ih.1],by simp[ih.2.1],λc i b l m=>?_⟩;cases c with
   |zero=>simp at l m;subst l;subst m;exact p 0 _ _ rfl rfl
   |succ c=>exact ih.2.2 c i b (by simpa using l) (by simpa using m)
def qn(c:Nat->Prop)(k:Nat)(e:Option (VT k))(w:World)(a:Ending)(w':World):Prop:=
 Below w.heap.size w w'/\match e with
  |some d=>∃b,a=.returned b/\gR c k w' b d
  |none=>a=gU 4
theorem qn.none_{c:Nat->Prop}{k:Nat}{a:Option (VT k)}(b:Below w.heap.size w w')(d:a=none):qn c k a w (gU 4) w':=by subst d;exact⟨b,rfl⟩
theorem qn.some_{P:Nat->Prop}{k:Nat}{c:Option (VT k)}{a:VT k}{v:Value}(b:Below w.heap.size w w')(d:c=some a)(e:gR P k w' v a):qn P k c w (.returned v) w':=by subst d;exact⟨b,v,rfl,e⟩
structure St(f:World)(t:Value)(w:World)(d:Value)(vs:List Value)(q:Value)(p:List (List Nat)):Prop where
 below:Below f.heap.size f w
 vb:w.heap[f.heap.size]?=some (.cells #[.int .i64 8,.int .i64 0,.int .i64 0,.string { data:=#[] },d,q,t] 67 (0,0))
 own:w.ownsRow (f.heap.size+1) 67 7 d vs.length (vs.flatMap cellsOf)
 ownk:w.ownsRow (f.heap.size+1) 9 1 q p.length (p.map λs=>.string (gC s))
variable{f:World}{t d q:Value}{vs:List Value}{p:List (List Nat)}
theorem St.step(a:St f t w d vs q p)(b:Below w.heap.size w w'):St f t w' d vs q p:=
 ⟨a.below.trans (b.mono a.below.size),by rw[b.block _ (ae a.vb)];exact a.vb,vV a.own b,vV a.ownk b⟩
theorem St.alloc(b:St f t w d vs q p)(a:Obj):St f t (w.alloc a) d vs q p:=b.step ((aj _ _).alloc (af _) a)
theorem St.drew(a:St f t w d vs q p):St f t w.drew d vs q p:=a.step (aj _ _).drew
theorem St.key(b:St f t w d vs q p){i:List Nat}{h:Value}
  (k:w'.ownsRow (f.heap.size+1) 9 1 h (p.length+1) ((p.map λi=>.string (gC i))++[.string (gC i)])) (g:w.grownBy w' q.ownBlock) :
  St f t (w'.setCell ⟨f.heap.size,5,none⟩ h) d vs h (p++[i]):=by
 have n:=ae b.vb;have j:∀e,q.ownBlock=some e->f.heap.size+1<=e/\e<w.heap.size:=b.ownk.lt;have o:w'.heap[f.heap.size]?=some (.cells #[.int .i64 8,.int .i64 0,.int .i64 0,.string { data:=#[] },d,q,t] 67 (0,0)):=by rw[g.block _ n (λc=>by have:=j _ c.symm;omega)];exact b.vb
 refine⟨⟨g.os.trans b.below.os,g.tape.trans b.below.tape,g.output.trans b.below.output,by have:=g.size;have:=b.below.size;simp[World.setCell];omega,λe l=>?_⟩,?_,?_,?_⟩
 ·rw[jL _ (by show e≠f.heap.size;omega),g.block e (by have:=b.below.size;omega) (λc=>by have:=j _ c.symm;omega)];exact b.below.block e l
 ·rw[lq _ o];rfl
 ·have:=b.own.kept g (by
   cases m:d.ownBlock with
   |none=>exact Or.inl rfl
   |some e=>refine Or.inr (λc=>?_);exact yY b.own b.ownk (by decide) e m c.symm)
  exact aR this (λc=>absurd (this.lt (f.heap.size) c).1 (by omega)) h
 ·rw[ab,aH];have:=aR (a:=⟨f.heap.size,5,none⟩) k (λc=>absurd (k.lt (f.heap.size) c).1 (by omega)) h;simpa using this
theorem St.item(b:St f t w d vs q p){k:Value}{h:Value}
  (j:w'.ownsRow (f.heap.size+1) 67 7 h (vs.length+1) (vs.flatMap cellsOf++cellsOf k)) (g:w.grownBy w' d.ownBlock) :
  St f t (w'.setCell ⟨f.heap.size,4,none⟩ h) h (vs++[k]) q p:=by
 have n:=ae b.vb;have i:∀e,d.ownBlock=some e->f.heap.size+1<=e/\e<w.heap.size:=b.own.lt;have o:w'.heap[f.heap.size]?=some (.cells #[.int .i64 8,.int .i64 0,.int .i64 0,.string { data:=#[] },d,q,t] 67 (0,0)):=by rw[g.block _ n (λc=>by have:=i _ c.symm;omega)];exact b.vb
 refine⟨⟨g.os.trans b.below.os,g.tape.trans b.below.tape,g.output.trans b.below.output,by have:=g.size;have:=b.below.size;simp[World.setCell];omega,λe l=>?_⟩,?_,?_,?_⟩
 ·rw[jL _ (by show e≠f.heap.size;omega),g.block e (by have:=b.below.size;omega) (λc=>by have:=i _ c.symm;omega)];exact b.below.block e l
 ·rw[lq _ o];rfl
 ·rw[ab,cx];have:=aR (a:=⟨f.heap.size,4,none⟩) j (λc=>absurd (j.lt (f.heap.size) c).1 (by omega)) h;simpa using this
 ·have:=b.ownk.kept g (by
   cases m:q.ownBlock with
   |none=>exact Or.inl rfl
   |some e=>refine Or.inr (λc=>?_);exact yY b.own b.ownk (by decide) e c.symm m)
  exact aR this (λc=>absurd (this.lt (f.heap.size) c).1 (by omega)) h
def mM(g c:Nat)(h:World)(d:Value)(e:Array Bool)(b:World):Prop:=(e.getD g false=false->b.cell? ⟨c,4,none⟩=some d)/\∀a,a<c->b.heap[a]?=h.heap[a]?
theorem mM.set{a s i:Nat}{e:World}{d:Value}{b:Array Bool}{c:World}(g:i≠a):mM a s e d b c↔mM a s e d (b.setIfInBounds i true) c:=by unfold mM;rw[eL false g]
theorem pU{w w':World}{a:Addr}{b:Value}(c:w.cell? a=some b)(e:w'.heap[a.block]?=w.heap[a.block]?):w'.cell? a=some b:=by unfold World.cell? at *;rw[e];exact c
theorem KQ{F:Nat->Prop}{k:Nat}{bc:Value}{e:gz (VT k)}(a0:gR F (k+1) w bc e)(hl:e.keys.length=e.items.length)(bq:xS (k:=k+1) e) :
  Calls Tryz.prog 259 #[bc] w (qn (λa=>F a\/w.heap.size<=a) (k+1) (j_ e) w):=by
 obtain⟨i0,hi,eu,ev,ex⟩:=bu iV;obtain⟨j0,gi,ds,dv,dw⟩:=bu iS;obtain⟨d,q,t,vs,N,c4,bt,c5,bz,co⟩:=a0.parts;have HC:Hid (∀T:World,Below w.heap.size w T->Calls Tryz.prog 310 #[bc] T (rE (jx e) T)):=
  λT b=>CW (gR.keep (k+1) a0 (λa _ g=>b.block a g)) hl bq
 obtain⟨ia,ic,rfl⟩:=i_ bt.1;obtain⟨ka,kc,rfl⟩:=i_ bz.1;obtain⟨fa,fc,rfl⟩:=i_ co.1;have HI:=gv bt;have HK:=gv bz;have HV:=gv c5;clear a0 co bt bz c5;obtain⟨l,hn⟩:∃l,vs.length=l:=⟨_,rfl⟩;have bx:e.keys.length=l:=by omega
 have fv:l<=200000:=by have:=bq.1;omega
 rw[bx,hn]at N;unfold nV at N;generalize (e.kind:Int)=kd at N;generalize e.n=nn at N;generalize (e.places:Int)=pp at N;generalize gC e.text=tt at N;generalize e.filters.length=fl at N;subst N;have K:=gv (And.intro hn (And.intro bx (And.intro hl c4)));clear hl bq c4 hn bx;have B2:Hid (Below w.heap.size w ((w.alloc (.cells #[.int .i64 kd,.int .i64 nn,.int .i64 pp,.string tt,.slice ia l ic,.slice ka l kc,.slice fa fl fc] 67)).alloc (.cells gZ 67))):=
  ((aj _ _).alloc (af _) _).alloc (by simp) _
 have ao:=gv (HC.o _ B2.o);have b7:Hid (((w.alloc (.cells #[.int .i64 kd,.int .i64 nn,.int .i64 pp,.string tt,.slice ia l ic,.slice ka l kc,.slice fa fl fc] 67)).alloc (.cells gZ 67)).heap[w.heap.size]?=some (.cells #[.int .i64 kd,.int .i64 nn,.int .i64 pp,.string tt,.slice ia l ic,.slice ka l kc,.slice fa fl fc] 67 (0,0))):=l9 _ (jd _ _);have cd:Hid (((w.alloc (.cells #[.int .i64 kd,.int .i64 nn,.int .i64 pp,.string tt,.slice ia l ic,.slice ka l kc,.slice fa fl fc] 67)).alloc (.cells gZ 67)).heap[w.heap.size+1]?=some (.cells gZ 67 (0,0))):=by have:=jd (w.alloc (.cells #[.int .i64 kd,.int .i64 nn,.int .i64 pp,.string tt,.slice ia l ic,.slice ka l kc,.slice fa fl fc] 67)) (.cells gZ 67);rw[bM]at this;exact this
 obtain⟨bi,hR⟩:∃bi,j_ e=bi:=⟨_,rfl⟩;have HR:=gv hR;unfold j_ at HR;rw[hR];clear hR HC;unfold gZ at ao;cases e1:jx e with
 |none=>rw[e1]at ao HR;go_enter Tryz.func259,Tryz.ntmps259;go_wp2_with fail;refine ao.o.mono ?_;rintro U c ⟨b2,o⟩;simp only[]at o;subst o;exact⟨rfl,.none_ (B2.o.trans (b2.mono (by simp;omega))) HR.o.symm⟩
 |some fs =>
  rw[e1]at ao HR;simp only[fX]at HR;clear e1;go_enter Tryz.func259,Tryz.ntmps259;go_wp2_with fail;refine ao.o.mono ?_;rintro U c ⟨b2,e9,rfl,a1⟩;obtain⟨C,D,rfl⟩:=i_ a1;have BB:=gv (B2.o.trans (b2.mono (by simp;omega)));have a8:c.heap[w.heap.size]?=some (.cells #[.int .i64 kd,.int .i64 nn,.int .i64 pp,.string tt,.slice ia l ic,.slice ka l kc,.slice fa fl fc] 67 (0,0)):=by have hh:=b7.o;unfold gZ at hh;rw[b2.block _ (by simp;omega)];exact hh
  have c0:c.heap[w.heap.size+1]?=some (.cells gZ 67 (0,0)):=by have hh:=cd.o;unfold gZ at hh;rw[b2.block _ (by simp)];exact hh
  have de:=gv a1;have db:=gv a8;have cg:=gv c0;have d3:∀c8:Obj,(c.alloc c8).cell? ⟨w.heap.size,5,none⟩=some (.slice ka l kc):=λc8=>by rw[World.cell?_alloc_lt _ _ _ (ae a8),cb a8];rfl
  clear b7 cd b2 a1 a8 c0 ao B2;generalize cm:fs.length=B at *;have dd:=gv cm;clear cm;have ch:Hid (St c (.slice C B D) (c.alloc (.cells #[.int .i64 8,.int .i64 0,.int .i64 0,.string { data:=#[] },.slice none 0 0,.slice none 0 0,.slice C B D] 67)) (.slice none 0 0) [] (.slice none 0 0) []):=
   ⟨(aj _ _).alloc (af _) _,jd _ _,bk _ _ _ _,bk _ _ _ _⟩
  have er:w.heap.size+1<c.heap.size:=ae cg.o;go_wp2;go_loopw [12] (λO wr=>∃(j:Nat) (d q:Value),j<=l/\O=.int .i64 j/\Hid (St c (.slice C B D) wr d ((gW ((e.keys.zip vs).take j)).map Prod.snd) q ((gW ((e.keys.zip vs).take j)).map Prod.fst))) (λO _=>l-(intOf O).toNat)
  case atStart=>exact⟨0,_,_,aE _,rfl,ch⟩
  clear ch d3
  case round =>
   obtain⟨j,d,q,hm,rfl,n⟩:=hrel;obtain⟨ea,ec,bv⟩:=i_ n.o.own;obtain⟨oa,oc,b0⟩:=i_ n.o.ownk;rcases bN hm with hm | hm
   ·subst hm;have e1:(e.keys.zip vs).take j=e.keys.zip vs:=aY (by rw[fV];have:=K.o;omega);rw[e1]at n bv b0;have c3:=n.o.vb;have m:wr.heap[w.heap.size+1]?=some (.cells gZ 67 (0,0)):=by rw[n.o.below.block _ er];exact cg.o
    subst bv;subst b0;generalize cs:((gW (e.keys.zip vs)).map Prod.snd).length=ba at *;generalize cw:((gW (e.keys.zip vs)).map Prod.fst).length=bb at *;have dg:=gv m;unfold gZ at m;obtain⟨v0,v1,v2,v3,v4,v5,v6⟩:=oX c3;have r0:=mb m;have f0:=ix 0 m;have r1:=oB m;have f1:=ix 1 m;have r2:=qJ m;have f2:=ix 2 m;have r3:=qU m;have f3:=ix 3 m;have r4:=pV m;have f4:=ix 4 m;have r5:=rj m;have f5:=ix 5 m;have r6:=sJ m;have f6:=ix 6 m;have ez:=gv (And.intro cs cw);clear c3 m cs cw;go_wp2;have hf:=m_ dg.o (.int .i64 8) (.int .i64 0) (.int .i64 0) (.string { data:=#[] }) (.slice ea ba ec) (.slice oa bb oc) (.slice C B D);have ho:=ly wr (w.heap.size+1) (.int .i64 8) (.int .i64 0) (.int .i64 0) (.string { data:=#[] }) (.slice ea ba ec) (.slice oa bb oc) (.slice C B D);refine aF (v:=.agg #[.int .i64 8,.int .i64 0,.int .i64 0,.string { data:=#[] },.slice ea ba ec,.slice oa bb oc,.slice C B D]) ?_ rfl ?_;·exact aJ Tryz.results259 _ _ (w.heap.size+1) 67 _ _ _ rfl hf aP rfl (by kernel_rfl)
    obtain⟨p1,p2,p3⟩:=qd (R:=λr u=>gR F k w r u) e.keys vs e.items (by have:=K.o;omega) HV.o;have hT:=n.o;have L:Below w.heap.size w wr:=BB.o.trans (hT.below.mono BB.o.size);have a5:∀a,a≠w.heap.size+1->a<wr.heap.size->_:=λa x o=>ho.block a o x;refine .some_ ?_ HR.o.symm ⟨.slice ea ba ec,.slice oa bb oc,.slice C B D,(gW (e.keys.zip vs)).map Prod.snd,rfl,?_,?_,?_,?_,?_⟩;·exact⟨ho.os.trans L.os,ho.tape.trans L.tape,ho.output.trans L.output,aD L.size ho.size,λa g=>(a5 a (by omega) (aC g L.size)).trans (L.block a g)⟩
    ·show((gW (e.keys.zip vs)).map Prod.snd).length=((gW (e.keys.zip e.items)).map Prod.snd).length;rw[av,av,p2]
    ·refine jr.keep (w:=wr) (P:=λa=>(F a/\a<w.heap.size)\/c.heap.size<=a) (jr.of hT.own (λa g=>Or.inr (by have:=(hT.own.lt a g).1;omega))) (λa g a2=>a5 a (by omega) a2) |>.mono (λa g _=>by rcases g with g | g;exact Or.inl g.1;exact Or.inr (by omega))
    ·intro O r u H Z;refine gR.mono k (gR.keep k (gR.mono (Q:=λa=>F a/\a<w.heap.size) k (p3 O r u H Z) (λa x o=>⟨x,o⟩)) (λa g a2=>?_)) (λa g _=>Or.inl g.1);exact(a5 a (by omega) (aC g.2 L.size)).trans (L.block a g.2)
    ·show jr _ _ 9 1 _ ((gW (e.keys.zip e.items)).map Prod.fst).length (((gW (e.keys.zip e.items)).map Prod.fst).map λb6=>.string (gC b6));rw[<-p1];refine jr.keep (w:=wr) (P:=λa=>(F a/\a<w.heap.size)\/c.heap.size<=a) (jr.of hT.ownk (λa g=>Or.inr (by have:=(hT.ownk.lt a g).1;omega))) (λa g a2=>a5 a (by omega) a2) |>.mono (λa g _=>by rcases g with g | g;exact Or.inl g.1;exact Or.inr (by omega))
    ·have a1:=vV de.o (b:=hT.below);show jr _ _ 3 1 _ fs.length _;rw[dd.o];refine jr.keep (w:=wr) (P:=λa=>w.heap.size+2<=a) (jr.of a1 (λa g=>by have:=(a1.lt a g).1;simp at this;omega)) (λa g a2=>a5 a (by omega) a2) |>.mono (λa g _=>Or.inr (by omega))
   ·obtain⟨r,H⟩:∃r,vs[j]?=some r:=⟨_,ai (by have:=K.o;omega)⟩;obtain⟨u,Z⟩:∃u,e.items[j]?=some u:=⟨_,ai (by have:=K.o;omega)⟩;obtain⟨J,bw⟩:∃J,e.keys[j]?=some J:=⟨_,ai (by have:=K.o;omega)⟩;have ck:∀r∈vs,(cellsOf r).length=7:=λr H=>by obtain⟨O,eb,ei⟩:=cA H;obtain⟨u,Z⟩:∃u,e.items[O]?=some u:=⟨_,ai (by have:=K.o;omega)⟩;exact(HV.o O r u (by rw[ai eb,ei]) Z).cells.1
    obtain⟨a,e8,cp,ej,d2,d6,G⟩:=DK HI.o.1 ck (by decide) H;rw[K.o.1]at cp;cases cp;obtain⟨g2,c2,cr,bs⟩:=ro HK.o.1 (show(e.keys.map λb6=>Value.string (gC b6))[j]?=some (.string (gC J))by rw[bj,bw];rfl);rw[K.o.2.1]at cr;cases cr;have dj:=gv (HV.o j r u H Z).cells;obtain⟨k0,k1,k2,k3,ja,jl,jc,ac,kl,ad,V,X,W,I⟩:=gR.form (HV.o j r u H Z);have P:=gv (ru (e.keys.zip vs) j J r (by rw[fJ];exact⟨bw,H⟩));have bd:=gv (show(gW ((e.keys.zip vs).take j)).length<=l from aD (qb _) (by rw[ax];omega));have fb:a<w.heap.size:=aB w _ (G 0 _ (by rw[I];rfl));have E:∀{a7:Addr} {al:Value},w.cell? a7=some al->c.cell? a7=some al:=λ{a7 al} a0=>by rw[BB.o.cell (aB w a7 a0)];exact a0
    have D0:Hid (c.cell? ⟨a,j*7,none⟩=some (.int .i64 k0)):=E (G 0 _ (by rw[I];rfl));have D1:Hid (c.cell? ⟨a,j*7+1,none⟩=some (.int .i64 k1)):=E (G 1 _ (by rw[I];rfl));have D2:Hid (c.cell? ⟨a,j*7+2,none⟩=some (.int .i64 k2)):=E (G 2 _ (by rw[I];rfl));have D3:Hid (c.cell? ⟨a,j*7+3,none⟩=some (.string k3)):=E (G 3 _ (by rw[I];rfl));have D4:Hid (c.cell? ⟨a,j*7+4,none⟩=some (.slice ja jl jc)):=E (G 4 _ (by rw[I];rfl));have D5:Hid (c.cell? ⟨a,j*7+5,none⟩=some (.slice ac kl ad)):=E (G 5 _ (by rw[I];rfl));have D6:Hid (c.cell? ⟨a,j*7+6,none⟩=some (.slice V X W)):=E (G 6 _ (by rw[I];rfl));have dk:wr.cell? ⟨g2,j,none⟩=some (.string (gC J)):=by rw[n.o.below.cell (by have:=aB c _ (E bs);exact this)];exact E bs
    subst I;clear E G bs H Z bw ck d6 ej d2;generalize ey:gW ((e.keys.zip vs).take j)=zz at *;clear ey;obtain⟨s,i⟩:∃s,gC J=s:=⟨_,rfl⟩;rw[i]at P dk;have di:=gv i;clear i;by_cases x:s={ data:=#[76,101,110,103,116,104] }
    ·have M:jy s=true:=by unfold jy;rw[aL x];rfl
     have R:=gv (P.o.trans (by rw[aA M,ct]));have c1:(s.toList==[76,101,110,103,116,104])=true:=by rw[oG,cQ];exact x
     clear P x M;go_wp2;go_roundw
     case rel=>exact⟨j+1,_,_,by omega,by first | rfl | (congr 1),by rw[R.o];exact n⟩
     case measure=>simp[intOf];omega
    ·have c1:(s.toList==[76,101,110,103,116,104])=false:=by rw[oG,bG];exact x
     by_cases o:s={ data:=#[70,105,108,116,101,114] }
     ·have M:jy s=true:=by unfold jy;rw[aL o,Bool.or_true]
      have R:=gv (P.o.trans (by rw[aA M,ct]));have c2:(s.toList==[70,105,108,116,101,114])=true:=by rw[oG,cQ];exact o
      clear P x o M;go_wp2;go_roundw
      case rel=>exact⟨j+1,_,_,by omega,by first | rfl | (congr 1),by rw[R.o];exact n⟩
      case measure=>simp[intOf];omega
     ·have M:jy s=false:=by unfold jy;rw[a_ x,a_ o];rfl
      have R:=gv (P.o.trans (by rw[au (by rw[M];decide)]));have c2:(s.toList==[70,105,108,116,101,114])=false:=by rw[oG,bG];exact o
      have dl:Hid ((gW ((e.keys.zip vs).take (j+1))).map Prod.fst=zz.map Prod.fst++[J]):=by unfold Hid;rw[R.o,aH];rfl
      have dn:Hid ((gW ((e.keys.zip vs).take (j+1))).map Prod.snd=zz.map Prod.snd++[Value.agg #[.int .i64 k0,.int .i64 k1,.int .i64 k2,.string k3,.slice ja jl jc,.slice ac kl ad,.slice V X W]]):=by unfold Hid;rw[R.o,aH];rfl
      have fd:(zz.map Prod.fst).length<=l:=by rw[av];exact bd.o
      have fm:(zz.map Prod.snd).length<=l:=by rw[av];exact bd.o
      clear R P bd;generalize zz.map Prod.fst=zf at *;generalize zz.map Prod.snd=zs at *;have q5:=rj n.o.vb;have et:c.heap.size<wr.heap.size:=ae n.o.vb;subst b0;clear x o M;generalize cl:zf.length=dr at *;have b9:=gv cl;clear cl;go_wp2_with (at_builtin;refine aK _ rfl (.tmp 24) (.tmp 26) 38 rfl (c.heap.size+1) 9 j0 (.string { data:=#[] }) 1 16 d_ gi ds dv dw rfl (by decide) _ zf.length _ rfl (n.o.ownk.alloc _) ⟨wr.heap.size,0,none⟩ 1 1 [.string s] rfl rfl ?hnews ?hone ?h63 ?hby ?hbs ?_)
      case hnews=>intro c7 al hu;rw[aa,cb (jd wr _)];simpa using hu
      case hone=>intro al hu;simp at hu;subst hu;rfl
      case h63=>unfold maxLen;rw[b9.o];omega
      case hby=>rw[b9.o];omega
      case hbs=>simp;omega
      intro v6 w6 b4 br _;have a3:Hid (St c (.slice C B D) (w6.setCell ⟨c.heap.size,5,none⟩ v6) d zs v6 (zf++[J])):=(n.o.alloc _).key (by rw[di.o];exact b4) br;have b1:w6.heap[c.heap.size]?=some (.cells #[.int .i64 8,.int .i64 0,.int .i64 0,.string { data:=#[] },d,.slice oa dr oc,.slice C B D] 67 (0,0)):=by rw[br.block _ (by simp;omega) (λU=>by have:=(n.o.ownk.lt _ U.symm).1;omega),heap_alloc_old _ _ et];exact n.o.vb
      have d0:=rj b1;have d4:=ix 5 b1;obtain⟨dp,c6,el⟩:=i_ b4;subst el;clear b4 br b1;go_wp2_with fail;generalize w6.setCell ⟨c.heap.size,5,none⟩ (.slice dp _ c6)=w7 at *;have en:=a3.o.vb;have dc:Hid (mM 10 c.heap.size c d (Array.replicate 11 false) w7.drew):=⟨λ_=>cb a3.o.drew.vb,λa g=>a3.o.drew.below.block a g⟩;have da:Hid (c.cell? ⟨w.heap.size,4,none⟩=some (.slice (some ⟨a,0,none⟩) l ic)):=by unfold Hid;rw[cb db.o];rfl
      clear d0 d4 en q5 c1 c2 dk;refine p7 (mM 10 c.heap.size c d) (by kernel_rfl) ?_;intro h;have i:=dc.o;refine ti 0 ?_ h i ?_;clear h i;intro h i;(try simp only[gB])
      refine tk 1 ?_ h ?_ i ?_;rotate_left;·intro T hW;obtain⟨bf,bm,hL,a4⟩:=hW;have d1:=a4.1 (by cases h9:bf.getD 10 false with | false=>rfl | true=>exact absurd (bm.came 2 10 (by kernel_rfl) h9) (by rw[zU hL];decide));go_simp;try(with_reducible rfl)
      clear h i;intro h i;(try simp only[gB])
      refine ti 2 ?_ h i ?_;clear h i;intro h i;(try simp only[gB])
      refine tk 3 ?_ h ?_ i ?_;rotate_left;·intro T hW;obtain⟨bf,bm,hL,a4⟩:=hW;have d1:=pU da.o (a4.2 _ (by show w.heap.size<_;omega));go_simp;try(with_reducible rfl)
      clear h i;intro h i;(try simp only[gB])
      refine ti 4 ?_ h i ?_;clear h i;intro h i;(try simp only[gB])
      refine ti 5 ?_ h i ?_;clear h i;intro h i;(try simp only[gB])
      refine tk 6 ?_ h ?_ i ?_;rotate_left;·intro T hW;obtain⟨bf,bm,hL,a4⟩:=hW;have Y:=a4.2 a (by omega);have e0:=pU D0.o Y;have e1:=pU D1.o Y;have e2:=pU D2.o Y;have e3:=pU D3.o Y;have e4:=pU D4.o Y;have e5:=pU D5.o Y;have e6:=pU D6.o Y;go_simp;try(with_reducible rfl)
      clear h i;intro h i;(try simp only[gB])
      refine on 7 h λS z=>?_;go_simp;have v:=gv (a3.o.drew.alloc (.cells #[.int .i64 k0,.int .i64 k1,.int .i64 k2,.string k3,.slice ja jl jc,.slice ac kl ad,.slice V X W] 67));have fx:c.heap.size<w7.heap.size:=ae a3.o.vb;have b8:Hid (mM 10 c.heap.size c d #[true,true,true,true,true,true,true,true,false,false,false] (w7.drew.alloc (.cells #[.int .i64 k0,.int .i64 k1,.int .i64 k2,.string k3,.slice ja jl jc,.slice ac kl ad,.slice V X W] 67))):=⟨λ_=>cb v.o.vb,λa g=>v.o.below.block a g⟩;refine z.o _ _ b8.o (λy A=>?_);clear h i z S;have h:=y;have i:=A;clear y A
      (try simp only[gB])
      refine on 8 h λS z=>?_;refine vX rfl (.tmp 30) (.tmp 36) 29 rfl (c.heap.size+1) 67 i0 _ 7 112 cu hi eu ev ex rfl (by decide) d zs.length (zs.flatMap cellsOf) (by rw[bv];rfl) v.o.own ⟨w7.heap.size,0,none⟩ 1 1 [.int .i64 k0,.int .i64 k1,.int .i64 k2,.string k3,.slice ja jl jc,.slice ac kl ad,.slice V X W] rfl rfl ?hnews ?hone ?h63 ?hby ?hbs ?_
      case hnews=>intro c7 al hu;rw[aa];show(w7.alloc (.cells #[.int .i64 k0,.int .i64 k1,.int .i64 k2,.string k3,.slice ja jl jc,.slice ac kl ad,.slice V X W] 67)).cell? ⟨w7.heap.size,c7,none⟩=some al;rw[cb (jd w7 _)];simpa using hu
      case hone=>exact dj.o.2
      case h63=>unfold maxLen;omega
      case hby=>omega
      case hbs=>simp;omega
      intro v9 w9 b5 a9 es;have H9:Hid (St c (.slice C B D) (w9.setCell ⟨c.heap.size,4,none⟩ v9) v9 (zs++[.agg #[.int .i64 k0,.int .i64 k1,.int .i64 k2,.string k3,.slice ja jl jc,.slice ac kl ad,.slice V X W]]) _ (zf++[J])):=v.o.item b5 a9;have b3:=(a9.block c.heap.size (ae v.o.vb) (λU=>by have:=(v.o.own.lt _ U.symm).1;omega)).trans v.o.vb;have bn:=pV b3;have d5:=ix 4 b3;have a6:Hid (∀a,a<c.heap.size->w9.heap[a]?=c.heap[a]?):=λa g=>by exact(a9.block a (Nat.lt_trans g (ae v.o.vb)) (λU=>by have:=(v.o.own.lt _ U.symm).1;omega)).trans (v.o.below.block a g)
      obtain⟨e7,c9,em⟩:=i_ b5;subst em;clear b5 a9 es b3 v b8;refine z.o _ _ ⟨λ_=>bn,a6.o⟩ (λy A=>?_);clear h i z S;have h:=y;have i:=A;clear y A
      (try simp only[gB])
      refine on 9 h λS z=>?_;go_simp;refine z.o _ _ ⟨λ_=>bn,a6.o⟩ (λy A=>?_);clear h i z S;have h:=y;have i:=A;clear y A
      (try simp only[gB])
      refine on 10 h λS z=>?_;go_simp;refine z.o _ _ ⟨λh9=>(by cases h9),λa g=>by rw[jL _ (by show a≠c.heap.size;omega)];exact a6.o a g⟩ (λy A=>?_);clear h i z S;have h:=y;have i:=A;clear y A
      (try simp only[gB])
      refine mI (by kernel_rfl) ?_ _;clear h i;clear bn d5 a6;go_wp2;go_roundw
      case rel=>exact⟨j+1,_,_,by omega,by first | rfl | (congr 1),by rw[dl.o,dn.o];exact H9⟩
      case measure=>simp[intOf];omega
end
theorem xk{m:Type}{c:List Nat->Option (m × List Nat)}(j:∀r l b,c r=some (l,b)->b.length+1<=r.length):∀(e:Nat) (r b:List Nat) (d:List m),j3 c e r=some (d,b)->d.length+b.length<=r.length
 |0,r,b,d,a=>by cases a
 |e+1,r,b,d,a=>by
  simp only[j3]at a;have s:=jo r;cases g:gH [93] (gG r)with
  |some t=>rw[g]at a;simp at a;have:=(ie g).1;rw[a.1,<-a.2];simp;omega
  |none =>
   rw[g]at a;simp only[]at a;cases h:c (gG r)with
   |none=>rw[h]at a;cases a
   |some q =>
    obtain⟨l,k⟩:=q;rw[h]at a;simp only[]at a;cases f:j3 c e k with
    |none=>rw[f]at a;cases a
    |some i=>obtain⟨i,p⟩:=i;rw[f]at a;simp at a;have ih:=xk j e k p i f;have:=j _ _ _ h;obtain⟨n,o⟩:=a;subst n;subst o;simp only[ag];omega
theorem uz{l:Type}{d:List Nat->Option (l × List Nat)}{n:l->Prop}{m:Nat}(p:∀r f b,d r=some (f,b)->b.length<=r.length)(o:∀r f b,d r=some (f,b)->r.length<=m->n f):∀(i:Nat) (r b:List Nat) (h:List l),j3 d i r=some (h,b)->r.length<=m->∀c∈h,n c
 |0,r,b,h,a,_=>by cases a
 |i+1,r,b,h,a,w=>by
  simp only[j3]at a;have x:=jo r;cases q:gH [93] (gG r)with
  |some y=>rw[q]at a;simp at a;rw[a.1];intro c e;cases e
  |none =>
   rw[q]at a;simp only[]at a;cases g:d (gG r)with
   |none=>rw[g]at a;cases a
   |some c =>
    obtain⟨f,s⟩:=c;rw[g]at a;simp only[]at a;cases j:j3 d i s with
    |none=>rw[j]at a;cases a
    |some k =>
     obtain⟨k,u⟩:=k;rw[j]at a;simp at a;have h3:=p _ _ _ g;have ih:=uz p o i s u k j (by omega);have:=o _ _ _ g (by omega);obtain⟨t,v⟩:=a;subst t;intro c e;rcases bT.1 e with rfl | e;·exact this
     ·exact ih c e
theorem uI{p:Type}{d:List Nat->Option (p × List Nat)}{s:p->Prop}{q:Nat}(u:∀r f b,d r=some (f,b)->b.length<=r.length)(t:∀r f b,d r=some (f,b)->r.length<=q->s f):∀(i:Nat) (r b:List Nat) (h:List (List Nat) × List p),jh d i r=some (h,b)->r.length<=q->∀c∈h.2,s c
 |0,r,b,h,a,_=>by cases a
 |i+1,r,b,h,a,C=>by
  simp only[jh]at a;have D:=jo r;cases v:gH [62,62] (gG r)with
  |some n=>rw[v]at a;simp at a;rw[<-a.1];intro c e;cases e
  |none =>
   rw[v]at a;simp only[]at a;cases j:gH [47] (gG r)with
   |none=>rw[j]at a;cases a
   |some n =>
    rw[j]at a;simp only[]at a;have E:=(ie j).1;cases m:ke n with
    |none=>rw[m]at a;cases a
    |some A =>
     obtain⟨k,w⟩:=A;rw[m]at a;simp only[]at a;have F:=kw n 0 0 k w m;cases g:d w with
     |none=>rw[g]at a;cases a
     |some c =>
      obtain⟨f,x⟩:=c;rw[g]at a;simp only[]at a;cases l:jh d i x with
      |none=>rw[l]at a;cases a
      |some o =>
       obtain⟨o,z⟩:=o;rw[l]at a;simp at a;have h3:=u _ _ _ g;have ih:=uI u t i x z o l (by omega);have:=t _ _ _ g (by omega);obtain⟨y,B⟩:=a;subst y;intro c e;rcases bT.1 e with rfl | e;·exact this
       ·exact ih c e
def mU(b:Nat):{k:Nat}->VT k->Prop
 |0,_=>True
 |_+1,a=>(gz.items a).length<=b/\(gz.keys a).length<=b/\(gz.kind a=7->(gz.keys a).length=(gz.items a).length)/\gz.kind a≠8/\(gz.filters a)=[]/\∀c∈gz.items a,mU b c
theorem mU.leaf(b k a:Nat)(e:Int)(f:Nat)(g:List Nat)(c:a≠8):mU b (k:=k+1) (hJ (VT k) a e f g):=
 ⟨aE _,aE _,λ_=>rfl,c,rfl,λh d=>by cases d⟩
theorem mU.few:∀{k:Nat} {a:VT k},mU 200000 a->xS a
 |0,_,_=>trivial
 |k+1,a,b=>⟨b.1,b.2.1,λd c=>mU.few (b.2.2.2.2.2 d c)⟩
theorem ou{f:Nat}:∀{k:Nat} {r c:List Nat} {h:VT k},gI k r=some (h,c)->r.length<=f->mU f h
 |0,r,c,h,a,_=>by cases a
 |k+1,r,c,h,a,y=>by
  have t:∀r e c,gI k r=some (e,c)->c.length+1<=r.length:=λr e c a=>kY a;have s:∀r e c,gI k r=some (e,c)->c.length<=r.length:=λr e c a=>by have:=kY a;omega
  have q:∀r e c,gI k r=some (e,c)->r.length<=f->mU f e:=λr e c a u=>ou a u;simp only[gI]at a;have z:=jo r;cases l:gH [91] (gG r)with
  |some d =>
   rw[l]at a;simp only[]at a;have v:=(ie l).1;cases b:j3 (gI k) (d.length+1) d with
   |none=>rw[b]at a;cases a
   |some g=>rw[b]at a;obtain⟨m,x⟩:=g;have i:=xk t _ _ _ _ b;have j:=uz s q _ _ _ _ b (by omega);cases a;exact⟨by show m.length<=f;omega,aE _,λa=>(by cases a),by show 6≠8;decide,rfl,j⟩
  |none =>
   rw[l]at a;simp only[]at a;cases h3:gH [60,60] (gG r)with
   |some d =>
    rw[h3]at a;simp only[]at a;have v:=(ie h3).1;cases b:jh (gI k) (d.length+1) d with
    |none=>rw[b]at a;cases a
    |some g=>rw[b]at a;obtain⟨⟨w,m⟩,x⟩:=g;have i:=pq t _ _ _ _ b;have j:=uI s q _ _ _ _ b (by omega);simp only[]at i;cases a;exact⟨by show m.length<=f;omega,by show w.length<=f;omega,λ_=>i.1,by show 7≠8;decide,rfl,j⟩
   |none =>
    rw[h3]at a;simp only[]at a;cases n:gH [60] (gG r)with
    |some d =>
     rw[n]at a;simp only[]at a;cases b:nQ d with
     |none=>rw[b]at a;cases a
     |some g=>rw[b]at a;cases a;exact mU.leaf _ _ _ _ _ _ (by decide)
    |none =>
     rw[n]at a;simp only[]at a;cases o:gH [40] (gG r)with
     |some d =>
      rw[o]at a;simp only[]at a;cases b:lZ d with
      |none=>rw[b]at a;cases a
      |some g=>rw[b]at a;cases a;exact mU.leaf _ _ _ _ _ _ (by decide)
     |none =>
      rw[o]at a;simp only[]at a;cases p:gH [47] (gG r)with
      |some d =>
       rw[p]at a;simp only[]at a;cases b:ke d with
       |none=>rw[b]at a;cases a
       |some g=>rw[b]at a;cases a;exact mU.leaf _ _ _ _ _ _ (by decide)
      |none =>
       rw[p]at a;simp only[]at a;unfold jA at a;split at a;·cases a;exact mU.leaf _ _ _ _ _ _ (by decide)
       ·split at a;·cases a;exact mU.leaf _ _ _ _ _ _ (by decide)
        ·split at a;·cases a;exact mU.leaf _ _ _ _ _ _ (by decide)
         ·split at a
          ·split at a;·cases a;exact mU.leaf _ _ _ _ _ _ (by decide)
           ·cases a;exact mU.leaf _ _ _ _ _ _ (by decide)
          ·split at a;·cases a;exact mU.leaf _ _ _ _ _ _ (by decide)
           ·cases a
def l6{k:Nat}(c:gz (VT k))(r:List Nat):Option ((gz (VT k) × List Nat) × List Nat):=
 match(gH [10] r).or (gH [13,10] r)with
 |none=>none
 |some b=>match itemOf { data:=#[76,101,110,103,116,104] } 2 c with
  |none=>none
  |some a=>if 0<=rZ a/\rZ a<=(b.length:Int)then
    match gH [10] (b.drop (rZ a).toNat)with
    |none=>none
    |some d=>if d.takeWhile pB=[101,110,100,115,116,114,101,97,109]then
      match j_ c with
      |none=>none
      |some e=>some ((e,b.take (rZ a).toNat),d.dropWhile pB)
     else none
   else none
def lN(r:List Nat):Option ((VT 12 × List Nat) × List Nat):=match gI 12 r with
 |none=>none
 |some (a,b)=>if gz.kind (α:=VT 11) a=7 then
   match gF [115,116,114,101,97,109] b with
   |some c=>l6 (k:=11) a c
   |none=>some ((a,[]),b)
  else some ((a,[]),b)
def kC(a:Nat)(r:List Nat):Option ((VT 12 × List Nat) × List Nat):=
 match gF (iL a) r with
 |none=>none
 |some b=>match gF [48] b with
  |none=>none
  |some c=>match gF [111,98,106] c with
   |none=>none
   |some d=>match lN d with
    |none=>none
    |some (g,e)=>match gF [101,110,100,111,98,106] e with
     |none=>none
     |some f=>some (g,f)
theorem pN{k:Nat}{c:gz (VT k)}{r b:List Nat}{g:gz (VT k) × List Nat}(a:l6 c r=some (g,b)):b.length<=r.length:=by
 unfold l6 at a;split at a;·cases a
 ·next e e1 =>
  have h:e.length<=r.length:=by
   cases e2:gH [10] r with
   |some i=>rw[e2]at e1;cases e1;have:=(ie e2).1;omega
   |none=>rw[e2]at e1;have:=(ie (s:=[13,10]) (by simpa using e1)).1;omega
  split at a;·cases a
  ·split at a
   ·split at a;·cases a
    ·next f d =>
     have h3:=(ie d).1;rw[aU]at h3;split at a
     ·split at a;·cases a
      ·cases a;have:=lx (p:=pB) f;omega
     ·cases a
   ·cases a
theorem yP{r c:List Nat}{d:VT 12 × List Nat}(a:lN r=some (d,c)):c.length+1<=r.length:=by
 unfold lN at a;split at a;·cases a
 ·next e g e1 =>
  have b:=kY e1;split at a
  ·split at a
   ·next h e2=>have f:=ik e2;have h3:=pN a;omega
   ·cases a;exact b
  ·cases a;exact b
theorem pM{f:Nat}{r b:List Nat}{g:VT 12 × List Nat}(a:kC f r=some (g,b)):b.length+1<=r.length:=by
 unfold kC at a;split at a;·cases a
 ·next h e1 =>
  split at a;·cases a
  ·next i e2 =>
   split at a;·cases a
   ·next j c =>
    split at a;·cases a
    ·next m k d =>
     split at a;·cases a
     ·next l e=>cases a;have:=ik e1;have:=ik e2;have:=ik c;have:=yP d;have:=ik e;omega
end Go.Proofs.YtgkljcmjnphpeaaGreatDoor
