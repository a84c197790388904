import Derived.Test.YtgkljcmjnphpeaaGreatDoorK08
set_option linter.unusedVariables false
set_option linter.unusedSimpArgs false
set_option maxHeartbeats 8000000
set_option maxRecDepth 100000
namespace Go.Proofs.YtgkljcmjnphpeaaGreatDoor
open Go.RowKit
section
variable{B bs cap k:Nat}{ao:Option Addr}{data:List Nat}{a b c:Value}{w d f:World}{q r:List Nat}
theorem Dt{v:Value}{y:VT k}(g:Sc B bs ao cap data a b c d q)(s:gQ bs w d)(C:d.heap[w.heap.size]?=some (.cells gZ 67 (0,0)))(I:bs<w.heap.size)(E:gR (λe=>w.heap.size<=e/\e≠w.heap.size) k d v y)(i j l m n o p:Value)(F:v=.agg #[i,j,l,m,n,o,p]) :
  let t:=((((((d.setCell ⟨w.heap.size,0,none⟩ i).setCell ⟨w.heap.size,1,none⟩ j).setCell ⟨w.heap.size,2,none⟩ l).setCell ⟨w.heap.size,3,none⟩ m).setCell ⟨w.heap.size,4,none⟩ n).setCell ⟨w.heap.size,5,none⟩ o).setCell ⟨w.heap.size,6,none⟩ p
  t.heap[w.heap.size]?=some (.cells #[i,j,l,m,n,o,p] 67 (0,0))/\gR (λe=>w.heap.size<=e) k t (.agg #[i,j,l,m,n,o,p]) y/\Sc B bs ao cap data a b c t q/\gQ bs w t:=by
 have h:=ly d w.heap.size i j l m n o p;have G:=g.hb;have A:=g.lt;have D:=s.size;refine⟨m_ C _ _ _ _ _ _ _,?_,?_,?_⟩
 ·rw[<-F];exact gR.mono k (gR.keep k E (λe u x=>h.block e x u.2)) (λe z _=>z.1)
 ·exact⟨g.hb,by rw[h.block _ A (by omega)];exact g.blk,g.dat.other (λe H=>h.block e (by omega) (by omega)),g.byt,g.len,g.lc,g.le,g.suf,g.ad⟩
 ·exact⟨h.os.trans s.os,h.tape.trans s.tape,h.output.trans s.output,aD D h.size,λe u x=>(h.block e (by omega) (by omega)).trans (s.block e u x)⟩
theorem Lr:VO B bs ao cap data a b c 0:=by intro w r i h;have e:Hid (Below w.heap.size w (w.alloc (.cells gZ 67))):=(aj _ _).alloc (af _) _;clear i h;show Calls Tryz.prog 192 #[.pointer (some ⟨bs,0,none⟩),.int .i64 (13:Int)] w _;go_enter Tryz.func192,Tryz.ntmps192;go_wp2_with fail;refine(sF 13 1 12 _ (Or.inr (by decide))).mono ?_;rintro g f ⟨rfl,rfl⟩;go_wp2_with fail;refine(sn _).mono ?_;rintro g f ⟨rfl,rfl⟩;exact⟨rfl,kg.none_ rfl (.of_below e.o)⟩
theorem Lq(hk:k<=11)(ih:VO B bs ao cap data a b c k):VO B bs ao cap data a b c (k+1):=by
 intro w r he H;have IH:=gv ih;have A:=gv H.lt;have BW:Hid (Below w.heap.size w (w.alloc (.cells gZ 67))):=(aj _ _).alloc (af _) _;have h:=gv (H.other BW.o);have e:(w.alloc (.cells gZ 67)).heap[w.heap.size]?=some (.cells gZ 67 (0,0)):=jd _ _;have ad:B<=w.heap.size:=e_ (dD H.hb H.lt);have HE:=gv he;have g:Hid (gQ bs w (w.alloc (.cells gZ 67))):=.of_below BW.o;obtain⟨D,hR⟩:∃D,gI (k+1) r=D:=⟨_,rfl⟩;rw[hR];have i:=gv hR;unfold gI at i;generalize al:w.alloc (.cells gZ 67)=a1 at *;have a0:Hid (w.alloc (.cells #[.int .i64 0,.int .i64 0,.int .i64 0,.string { data:=#[] },.slice none 0 0,.slice none 0 0,.slice none 0 0] 67)=a1):=al;rw[show 13-(k+1)=12-k by omega];have a2:(1:Int)<=((12-k:Nat):Int):=by omega
 have a3:((12-k:Nat):Int)<=12:=by omega
 clear he H hR al ih;go_enter Tryz.func192,Tryz.ntmps192;go_wp2_with fail;rw[a0.o];refine(pG _ 1 12 _ a2 a3).mono ?_;rintro z f ⟨rfl,rfl⟩;go_wp2_with fail;refine(oq _).mono ?_;rintro z f ⟨rfl,rfl⟩;have j:=gv (wP h.o { data:=#[91] } (by decide) (by decide));rw[show bl { data:=#[91] }=[91]from rfl]at j;cases x:gH [91] (gG r)with
 |some G =>
  rw[x]at j i;simp only[]at i;clear x;go_wp2_with fail;refine j.o.mono ?_;rintro z v ⟨rfl,t,l⟩;have u:=(l.block _ (ae e) (by have:=A.o;omega)).trans e;have p:=gv (g.o.trans l);clear h g e j l;have h:=gv (show Sc B bs ao cap data a b c v G from t);have g:=p;have e:=u;clear t p u;have s:Hid (Calls Tryz.prog 252 #[.pointer (some ⟨bs,0,none⟩),.int .i64 (12-k:Nat)] v (s8 B bs ao cap data a b c (k+1) D v)):=by unfold Hid;rw[<-i.o];exact Ee hk IH.o (HE.o.only h.o.hb ad g.o) h.o
  clear i;cases D with
  |none=>have y:Hid ((none:Option (VT (k+1) × List Nat))=none):=rfl;go_wp2_with fail;refine s.o.mono ?_;rintro z L ⟨rfl,m⟩;exact⟨rfl,kg.none_ (by first | exact y.o | rfl) (g.o.trans m)⟩
  |some M =>
   obtain⟨P,F⟩:=M;have y:Hid ((some (P,F):Option (VT (k+1) × List Nat))=some (P,F)):=rfl;go_wp2_with fail;refine s.o.mono ?_;rintro z L ⟨K,rfl,I,h3,m⟩;have C:=(m.block _ (ae e) (by have:=A.o;omega)).trans e;have N:=gv (Dt h3 (g.o.trans m) C A.o (gR.mono (k+1) I (λac H _=>by have h1:_<=ac:=H;have:=ae e;exact⟨by omega,by omega⟩)));obtain⟨kd,nn,pp,Q,ia,il,ic,ka,kl,kc,Y,fl,Z,rfl⟩:=gR.form I;clear e h g s I h3 m;have e:=C;obtain⟨r0,r1,r2,r3,r4,r5,r6⟩:=oX e;have R:=ix 0 e;have S:=ix 1 e;have T:=ix 2 e;have U:=ix 3 e;have V:=ix 4 e;have W:=ix 5 e;have X:=ix 6 e;have n:=gv (N.o _ _ _ _ _ _ _ rfl);clear e C N;go_wp2;refine aF (v:=.agg #[.int .i64 kd,.int .i64 nn,.int .i64 pp,.string Q,.slice ia il ic,.slice ka kl kc,.slice Y fl Z]) ?_ rfl ?_;·exact aJ fk _ _ w.heap.size 67 _ _ _ rfl n.o.1 aP rfl (by kernel_rfl)
   exact kg.some_ (by first | exact y.o | rfl) n.o.2.1 n.o.2.2.1 n.o.2.2.2
 |none =>
  rw[x]at j i;simp only[]at i;clear x;go_wp2_with fail;refine j.o.mono ?_;rintro z v ⟨rfl,t,l⟩;have u:=(l.block _ (ae e) (by have:=A.o;omega)).trans e;have p:=gv (g.o.trans l);clear h g e j l;have h:=gv (show Sc B bs ao cap data a b c v (gG r)from t);have g:=p;have e:=u;clear t p u;have j:=gv (wP h.o { data:=#[60,60] } (by decide) (by decide));rw[show bl { data:=#[60,60] }=[60,60]from rfl,kV]at j;cases x:gH [60,60] (gG r)with
  |some G =>
   rw[x]at j i;simp only[]at i;clear x;go_wp2_with fail;refine j.o.mono ?_;rintro z v ⟨rfl,t,l⟩;have u:=(l.block _ (ae e) (by have:=A.o;omega)).trans e;have p:=gv (g.o.trans l);clear h g e j l;have h:=gv (show Sc B bs ao cap data a b c v G from t);have g:=p;have e:=u;clear t p u;have s:Hid (Calls Tryz.prog 197 #[.pointer (some ⟨bs,0,none⟩),.int .i64 (12-k:Nat)] v (s8 B bs ao cap data a b c (k+1) D v)):=by unfold Hid;rw[<-i.o];exact Gw hk IH.o (HE.o.only h.o.hb ad g.o) h.o
   clear i;cases D with
   |none=>have y:Hid ((none:Option (VT (k+1) × List Nat))=none):=rfl;go_wp2_with fail;refine s.o.mono ?_;rintro z L ⟨rfl,m⟩;exact⟨rfl,kg.none_ (by first | exact y.o | rfl) (g.o.trans m)⟩
   |some M =>
    obtain⟨P,F⟩:=M;have y:Hid ((some (P,F):Option (VT (k+1) × List Nat))=some (P,F)):=rfl;go_wp2_with fail;refine s.o.mono ?_;rintro z L ⟨K,rfl,I,h3,m⟩;have C:=(m.block _ (ae e) (by have:=A.o;omega)).trans e;have N:=gv (Dt h3 (g.o.trans m) C A.o (gR.mono (k+1) I (λac H _=>by have h1:_<=ac:=H;have:=ae e;exact⟨by omega,by omega⟩)));obtain⟨kd,nn,pp,Q,ia,il,ic,ka,kl,kc,Y,fl,Z,rfl⟩:=gR.form I;clear e h g s I h3 m;have e:=C;obtain⟨r0,r1,r2,r3,r4,r5,r6⟩:=oX e;have R:=ix 0 e;have S:=ix 1 e;have T:=ix 2 e;have U:=ix 3 e;have V:=ix 4 e;have W:=ix 5 e;have X:=ix 6 e;have n:=gv (N.o _ _ _ _ _ _ _ rfl);clear e C N;go_wp2;refine aF (v:=.agg #[.int .i64 kd,.int .i64 nn,.int .i64 pp,.string Q,.slice ia il ic,.slice ka kl kc,.slice Y fl Z]) ?_ rfl ?_;·exact aJ fk _ _ w.heap.size 67 _ _ _ rfl n.o.1 aP rfl (by kernel_rfl)
    exact kg.some_ (by first | exact y.o | rfl) n.o.2.1 n.o.2.2.1 n.o.2.2.2
  |none =>
   rw[x]at j i;simp only[]at i;clear x;go_wp2_with fail;refine j.o.mono ?_;rintro z v ⟨rfl,t,l⟩;have u:=(l.block _ (ae e) (by have:=A.o;omega)).trans e;have p:=gv (g.o.trans l);clear h g e j l;have h:=gv (show Sc B bs ao cap data a b c v (gG r)from t);have g:=p;have e:=u;clear t p u;have j:=gv (wP h.o { data:=#[60] } (by decide) (by decide));rw[show bl { data:=#[60] }=[60]from rfl,kV]at j;cases x:gH [60] (gG r)with
   |some G =>
    rw[x]at j i;simp only[]at i;clear x;go_wp2_with fail;refine j.o.mono ?_;rintro z v ⟨rfl,t,l⟩;have u:=(l.block _ (ae e) (by have:=A.o;omega)).trans e;have p:=gv (g.o.trans l);clear h g e j l;have h:=gv (show Sc B bs ao cap data a b c v G from t);have g:=p;have e:=u;clear t p u;have s:=gv (KS h.o);cases E:nQ G with
    |none=>rw[E]at s i;have y:Hid (D=none):=i.o.symm;clear E i;go_wp2_with fail;refine s.o.mono ?_;rintro z L ⟨rfl,m⟩;exact⟨rfl,kg.none_ (by first | exact y.o | rfl) (g.o.trans m)⟩
    |some M =>
     obtain⟨J,F⟩:=M;rw[E]at s i;have y:Hid (D=some (hJ (VT k) 5 0 0 J,F)):=i.o.symm;clear E i;go_wp2_with fail;refine s.o.mono ?_;rintro z L ⟨K,rfl,rfl,h3,m⟩;have C:=(m.block _ (ae e) (by have:=A.o;omega)).trans e;have O:=gv (g.o.trans m);clear h g e s m;have h:=gv h3;have g:=O;have e:=C;clear h3 O C;obtain⟨r0,r1,r2,r3,r4,r5,r6⟩:=oX e;have R:=ix 0 e;have S:=ix 1 e;have T:=ix 2 e;have U:=ix 3 e;have V:=ix 4 e;have W:=ix 5 e;have X:=ix 6 e;have n:=gv (lf (k:=k) h.o g.o e 5 0 0 J A.o);clear e;go_wp2;refine aF (v:=.agg #[.int .i64 5,.int .i64 0,.int .i64 (0:Nat),.string (gC J),.slice none 0 0,.slice none 0 0,.slice none 0 0]) ?_ rfl ?_;·exact aJ fk _ _ w.heap.size 67 _ _ _ rfl n.o.1 aP rfl (by kernel_rfl)
     exact kg.some_ (by first | exact y.o | rfl) n.o.2.1 n.o.2.2.1 n.o.2.2.2
   |none =>
    rw[x]at j i;simp only[]at i;clear x;go_wp2_with fail;refine j.o.mono ?_;rintro z v ⟨rfl,t,l⟩;have u:=(l.block _ (ae e) (by have:=A.o;omega)).trans e;have p:=gv (g.o.trans l);clear h g e j l;have h:=gv (show Sc B bs ao cap data a b c v (gG r)from t);have g:=p;have e:=u;clear t p u;have j:=gv (wP h.o { data:=#[40] } (by decide) (by decide));rw[show bl { data:=#[40] }=[40]from rfl,kV]at j;cases x:gH [40] (gG r)with
    |some G =>
     rw[x]at j i;simp only[]at i;clear x;go_wp2_with fail;refine j.o.mono ?_;rintro z v ⟨rfl,t,l⟩;have u:=(l.block _ (ae e) (by have:=A.o;omega)).trans e;have p:=gv (g.o.trans l);clear h g e j l;have h:=gv (show Sc B bs ao cap data a b c v G from t);have g:=p;have e:=u;clear t p u;have s:=gv (Ln h.o);cases E:lZ G with
     |none=>rw[E]at s i;have y:Hid (D=none):=i.o.symm;clear E i;go_wp2_with fail;refine s.o.mono ?_;rintro z L ⟨rfl,m⟩;exact⟨rfl,kg.none_ (by first | exact y.o | rfl) (g.o.trans m)⟩
     |some M =>
      obtain⟨J,F⟩:=M;rw[E]at s i;have y:Hid (D=some (hJ (VT k) 5 0 0 J,F)):=i.o.symm;clear E i;go_wp2_with fail;refine s.o.mono ?_;rintro z L ⟨K,rfl,rfl,h3,m⟩;have C:=(m.block _ (ae e) (by have:=A.o;omega)).trans e;have O:=gv (g.o.trans m);clear h g e s m;have h:=gv h3;have g:=O;have e:=C;clear h3 O C;obtain⟨r0,r1,r2,r3,r4,r5,r6⟩:=oX e;have R:=ix 0 e;have S:=ix 1 e;have T:=ix 2 e;have U:=ix 3 e;have V:=ix 4 e;have W:=ix 5 e;have X:=ix 6 e;have n:=gv (lf (k:=k) h.o g.o e 5 0 0 J A.o);clear e;go_wp2;refine aF (v:=.agg #[.int .i64 5,.int .i64 0,.int .i64 (0:Nat),.string (gC J),.slice none 0 0,.slice none 0 0,.slice none 0 0]) ?_ rfl ?_;·exact aJ fk _ _ w.heap.size 67 _ _ _ rfl n.o.1 aP rfl (by kernel_rfl)
      exact kg.some_ (by first | exact y.o | rfl) n.o.2.1 n.o.2.2.1 n.o.2.2.2
    |none =>
     rw[x]at j i;simp only[]at i;clear x;go_wp2_with fail;refine j.o.mono ?_;rintro z v ⟨rfl,t,l⟩;have u:=(l.block _ (ae e) (by have:=A.o;omega)).trans e;have p:=gv (g.o.trans l);clear h g e j l;have h:=gv (show Sc B bs ao cap data a b c v (gG r)from t);have g:=p;have e:=u;clear t p u;have j:=gv (wP h.o { data:=#[47] } (by decide) (by decide));rw[show bl { data:=#[47] }=[47]from rfl,kV]at j;cases x:gH [47] (gG r)with
     |some G =>
      rw[x]at j i;simp only[]at i;clear x;go_wp2_with fail;refine j.o.mono ?_;rintro z v ⟨rfl,t,l⟩;have u:=(l.block _ (ae e) (by have:=A.o;omega)).trans e;have p:=gv (g.o.trans l);clear h g e j l;have h:=gv (show Sc B bs ao cap data a b c v G from t);have g:=p;have e:=u;clear t p u;have s:=gv (GA h.o);cases E:ke G with
      |none=>rw[E]at s i;have y:Hid (D=none):=i.o.symm;clear E i;go_wp2_with fail;refine s.o.mono ?_;rintro z L ⟨rfl,m⟩;exact⟨rfl,kg.none_ (by first | exact y.o | rfl) (g.o.trans m)⟩
      |some M =>
       obtain⟨J,F⟩:=M;rw[E]at s i;have y:Hid (D=some (hJ (VT k) 4 0 0 J,F)):=i.o.symm;clear E i;go_wp2_with fail;refine s.o.mono ?_;rintro z L ⟨K,rfl,rfl,h3,m⟩;have C:=(m.block _ (ae e) (by have:=A.o;omega)).trans e;have O:=gv (g.o.trans m);clear h g e s m;have h:=gv h3;have g:=O;have e:=C;clear h3 O C;obtain⟨r0,r1,r2,r3,r4,r5,r6⟩:=oX e;have R:=ix 0 e;have S:=ix 1 e;have T:=ix 2 e;have U:=ix 3 e;have V:=ix 4 e;have W:=ix 5 e;have X:=ix 6 e;have n:=gv (lf (k:=k) h.o g.o e 4 0 0 J A.o);clear e;go_wp2;refine aF (v:=.agg #[.int .i64 4,.int .i64 0,.int .i64 (0:Nat),.string (gC J),.slice none 0 0,.slice none 0 0,.slice none 0 0]) ?_ rfl ?_;·exact aJ fk _ _ w.heap.size 67 _ _ _ rfl n.o.1 aP rfl (by kernel_rfl)
       exact kg.some_ (by first | exact y.o | rfl) n.o.2.1 n.o.2.2.1 n.o.2.2.2
     |none =>
      rw[x]at j i;simp only[]at i;clear x;go_wp2_with fail;refine j.o.mono ?_;rintro z v ⟨rfl,t,l⟩;have u:=(l.block _ (ae e) (by have:=A.o;omega)).trans e;have p:=gv (g.o.trans l);clear h g e j l;have h:=gv (show Sc B bs ao cap data a b c v (gG r)from t);have g:=p;have e:=u;clear t p u;have s:Hid (Calls Tryz.prog 256 #[.pointer (some ⟨bs,0,none⟩)] v (s8 B bs ao cap data a b c (k+1) D v)):=by unfold Hid;rw[<-i.o,<-pE];exact Ed (k:=k) (HE.o.only h.o.hb ad g.o) h.o
      clear i;cases D with
      |none=>have y:Hid ((none:Option (VT (k+1) × List Nat))=none):=rfl;go_wp2_with fail;refine s.o.mono ?_;rintro z L ⟨rfl,m⟩;exact⟨rfl,kg.none_ (by first | exact y.o | rfl) (g.o.trans m)⟩
      |some M =>
       obtain⟨P,F⟩:=M;have y:Hid ((some (P,F):Option (VT (k+1) × List Nat))=some (P,F)):=rfl;go_wp2_with fail;refine s.o.mono ?_;rintro z L ⟨K,rfl,I,h3,m⟩;have C:=(m.block _ (ae e) (by have:=A.o;omega)).trans e;have N:=gv (Dt h3 (g.o.trans m) C A.o (gR.mono (k+1) I (λac H _=>by have h1:_<=ac:=H;have:=ae e;exact⟨by omega,by omega⟩)));obtain⟨kd,nn,pp,Q,ia,il,ic,ka,kl,kc,Y,fl,Z,rfl⟩:=gR.form I;clear e h g s I h3 m;have e:=C;obtain⟨r0,r1,r2,r3,r4,r5,r6⟩:=oX e;have R:=ix 0 e;have S:=ix 1 e;have T:=ix 2 e;have U:=ix 3 e;have V:=ix 4 e;have W:=ix 5 e;have X:=ix 6 e;have n:=gv (N.o _ _ _ _ _ _ _ rfl);clear e C N;go_wp2;refine aF (v:=.agg #[.int .i64 kd,.int .i64 nn,.int .i64 pp,.string Q,.slice ia il ic,.slice ka kl kc,.slice Y fl Z]) ?_ rfl ?_;·exact aJ fk _ _ w.heap.size 67 _ _ _ rfl n.o.1 aP rfl (by kernel_rfl)
       exact kg.some_ (by first | exact y.o | rfl) n.o.2.1 n.o.2.2.1 n.o.2.2.2
theorem El:∀k,k<=12->VO B bs ao cap data a b c k
 |0,_=>Lr
 |k+1,e=>Lq (by omega) (El k (by omega))
end
def je{a:Type}(b:ByteArray)(d:List (List Nat × a)):List a:=(d.filter λc=>decide (gC c.1=b)).map Prod.snd
def jC{a:Type}(d:ByteArray)(b:List (List Nat))(c:List a):List a:=je d (b.zip c)
theorem rx{f:Type}(a:ByteArray)(c:List (List Nat × f))(b:Nat)(k:List Nat)(e:f)(g:c[b]?=some (k,e)) :
  je a (c.take (b+1))=je a (c.take b)++(if gC k=a then[e]else[]):=by
 unfold je;rw[cP,g,List.filter_append,aH];by_cases d:gC k=a;·simp[d]
 ·simp[d]
theorem sj{c:Type}(b:ByteArray)(a:List (List Nat × c)):(je b a).length<=a.length:=by unfold je;rw[av];exact List.length_filter_le _ _
theorem qg{o p:Type}{R:o->p->Prop}(d:ByteArray):∀(c:List (List Nat)) (h:List o) (i:List p),h.length=i.length->(∀(a:Nat) (f:o) (g:p),h[a]?=some f->i[a]?=some g->R f g) ->
  (jC d c h).length=(jC d c i).length/\∀(a:Nat) (f:o) (g:p),(jC d c h)[a]?=some f->(jC d c i)[a]?=some g->R f g
 | [],h,i,_,_=>⟨rfl,λa f g e=>by simp[jC,je]at e⟩
 |k::c,[],[],_,_=>⟨rfl,λa f g e=>by simp[jC,je]at e⟩
 |k::c,[],g::i,e,_=>by cases e
 |k::c,f::h,[],e,_=>by cases e
 |k::c,f::h,g::i,e,q=>by
  have ih:=qg (R:=R) d c h i (by simpa using e) (λa j b m n=>q (a+1) j b (by simpa using m) (by simpa using n));have e1:∀{s:Type} (j:s) (r:List s),jC d (k::c) (j::r)=if gC k=d then j::jC d c r else jC d c r:=λj r=>by unfold jC je;rw[List.zip_cons_cons,List.filter_cons];by_cases l:gC k=d<;>simp[l]
  rw[e1,e1];by_cases l:gC k=d
  ·rw[aA l,aA l];refine⟨by simp[ih.1],λa j b m n=>?_⟩;cases a with
   |zero=>simp at m n;subst m;subst n;exact q 0 _ _ rfl rfl
   |succ a=>exact ih.2 a j b (by simpa using m) (by simpa using n)
  ·rw[au l,au l];exact ih
structure It(w0:World)(b:Array Value)(w:World)(v:Value)(xs:List Value):Prop where
 below:Below w0.heap.size w0 w
 box:w.heap[w0.heap.size]?=some (.cells b 67 (0,0))
 own:w.ownsRow (w0.heap.size+1) 67 7 v xs.length (xs.flatMap cellsOf)
theorem It.alloc{d w:World}{b:Array Value}{v:Value}{xs:List Value}(a:It d b w v xs)(c:Obj):It d b (w.alloc c) v xs:=
 ⟨a.below.alloc a.below.size c,l9 _ a.box,a.own.alloc _⟩
theorem It.grow{f j e:World}{b:Array Value}{o p x:Value}{g:List Value}(r:It f b j o g){h i:Obj}{m:Nat}{n:List Value}(t:e.ownsRow (f.heap.size+1) 67 7 p m (g.flatMap cellsOf++n))(d:((j.alloc h).alloc i).grownBy e o.ownBlock)(s:m=g.length+1:=by rfl)(u:n=cellsOf x:=by rfl) :
  It f b e p (g++[x]):=by
 subst s;subst u;have c:=(r.alloc h).alloc i;have k:∀a,a<f.heap.size+1->e.heap[a]?=((j.alloc h).alloc i).heap[a]?:=λa l=>d.block a (by have:=ae c.box;omega) (λq=>by have:=(c.own.lt a q.symm).1;omega);refine⟨⟨d.os.trans c.below.os,d.tape.trans c.below.tape,d.output.trans c.below.output,aD c.below.size d.size,λa l=>(k a (by omega)).trans (c.below.block a l)⟩,by rw[k _ (by omega)];exact c.box,?_⟩;rw[ab,cx];simpa using t
theorem AO{V:Nat->Prop}{k:Nat}{f:World}{a4:Value}{c:gz (VT k)}(A:gR V (k+1) f a4 c)(hl:c.keys.length=c.items.length)(a9:c.items.length<=200000)(g:ByteArray) :
  Calls Tryz.prog 260 #[a4,.string g] f λa7 w'=>∃iv,a7=.returned iv/\kK (λe=>V e/\e<f.heap.size) k (f.heap.size+1) (jC g c.keys c.items) w' iv/\Below f.heap.size f w':=by
 obtain⟨i0,hi,bn,bq,br⟩:=bu iV;obtain⟨iv,kv,fv,m,r,a1,X,a2,ac,ao⟩:=A.parts;obtain⟨ia,ic,rfl⟩:=i_ X.1;obtain⟨ka,kc,rfl⟩:=i_ ac.1;obtain⟨fa,fc,rfl⟩:=i_ ao.1;have HI:=gv X;have HK:=gv ac;have w:=gv a2;clear A ao X ac a2;obtain⟨l,hn⟩:∃l,m.length=l:=⟨_,rfl⟩;have Z:c.keys.length=l:=by omega
 have bw:l<=200000:=by omega
 rw[Z,hn]at r;unfold nV at r;generalize (c.kind:Int)=kd at r;generalize c.n=nn at r;generalize (c.places:Int)=pp at r;generalize gC c.text=tt at r;subst r;have t:=gv (And.intro hn (And.intro Z (And.intro hl a1)));clear hl a9 a1 hn Z;obtain⟨b,hb⟩:∃b:Array Value,#[.int .i64 kd,.int .i64 nn,.int .i64 pp,.string tt,.slice ia l ic,.slice ka l kc,.slice fa c.filters.length fc]=b:=⟨_,rfl⟩;have HB:=gv hb;clear hb;go_enter Tryz.func260,Tryz.ntmps260;go_wp2;go_loopw [5,11] (λbs q wr=>∃(a:Nat),a<=l/\q=.int .i64 a/\Hid (It f b wr bs (je g ((c.keys.zip m).take a)))) (λ_ q _=>l-(intOf q).toNat)
 case atStart=>refine⟨0,aE _,rfl,⟨(aj _ _).alloc (af _) _,?_,bk _ _ _ _⟩⟩;rw[jd,<-HB.o]
 case round =>
  obtain⟨a,Q,rfl,u⟩:=hrel;rcases bN Q with Q | Q
  ·subst Q;go_wp2;go_ret;have e1:(c.keys.zip m).take a=c.keys.zip m:=aY (by rw[fV];have:=t.o;omega);have P:=u.o;rw[e1]at P;obtain⟨p1,p2⟩:=qg (R:=λd h=>gR V k f d h) g c.keys m c.items (by have:=t.o;omega) w.o;exact⟨_,rfl,⟨_,P.own,p1,λq d h n s=>gR.keep k (gR.mono k (p2 q d h n s) (λe h1 h2=>⟨h1,h2⟩)) (λe _ hg=>P.below.block e hg)⟩,P.below⟩
  ·obtain⟨d,n⟩:∃d,m[a]?=some d:=⟨_,ai (by have:=t.o;omega)⟩;obtain⟨h,s⟩:∃h,c.items[a]?=some h:=⟨_,ai (by have:=t.o;omega)⟩;obtain⟨j,Y⟩:∃j,c.keys[a]?=some j:=⟨_,ai (by have:=t.o;omega)⟩;have al:∀d∈m,(cellsOf d).length=7:=λd n=>by obtain⟨q,bd,bf⟩:=cA n;obtain⟨h,s⟩:∃h,c.items[q]?=some h:=⟨_,ai (by have:=t.o;omega)⟩;exact(w.o q d h (by rw[ai bd,bf]) s).cells.1
   obtain⟨e,bt,bb,bi,a8,ba,o⟩:=DK HI.o.1 al (by decide) n;cases bb;obtain⟨g2,c2,bc,W⟩:=ro HK.o.1 (show(c.keys.map λg=>Value.string (gC g))[a]?=some (.string (gC j))by rw[bj,Y];rfl);cases bc;have a5:=gv (w.o a d h n s).cells;obtain⟨E,F,G,H,B,D,C,I,K,J,x,z,y,p⟩:=gR.form (w.o a d h n s);have i:∀{O:Addr} {S:Value},f.cell? O=some S->wr.cell? O=some S:=λ{O S} A=>by rw[u.o.below.cell (aB f O A)];exact A
   have N:=gv (rx g (c.keys.zip m) a j d (by rw[fJ];exact⟨Y,n⟩));have ad:=gv (show(je g ((c.keys.zip m).take a)).length<=l from aD (sj _ _) (by rw[ax];omega));have d0:wr.cell? ⟨e,a*7,none⟩=some (.int .i64 E):=i (o 0 _ (by rw[p];rfl));have d1:wr.cell? ⟨e,a*7+1,none⟩=some (.int .i64 F):=i (o 1 _ (by rw[p];rfl));have d2:wr.cell? ⟨e,a*7+2,none⟩=some (.int .i64 G):=i (o 2 _ (by rw[p];rfl));have d3:wr.cell? ⟨e,a*7+3,none⟩=some (.string H):=i (o 3 _ (by rw[p];rfl));have d4:wr.cell? ⟨e,a*7+4,none⟩=some (.slice B D C):=i (o 4 _ (by rw[p];rfl));have d5:wr.cell? ⟨e,a*7+5,none⟩=some (.slice I K J):=i (o 5 _ (by rw[p];rfl));have d6:wr.cell? ⟨e,a*7+6,none⟩=some (.slice x z y):=i (o 6 _ (by rw[p];rfl));have dk:∀L:Obj,(wr.alloc L).cell? ⟨g2,a,none⟩=some (.string (gC j)):=λL=>by rw[World.cell?_alloc_lt _ _ _ (aB wr _ (i W))];exact i W
   have db:∀L:Obj,(wr.alloc L).cell? ⟨f.heap.size,5,none⟩=some (.slice (some ⟨g2,0,none⟩) l kc):=λL=>by rw[World.cell?_alloc_lt _ _ _ (ae u.o.box),cb u.o.box,<-HB.o];rfl
   have M:=u;subst p;clear i o W n s Y al ba w HI HK u bi a8;have bx:f.heap.size+1<=wr.heap.size:=ae M.o.box;by_cases v:gC j=g
   ·have hc:(((gC j).toList==g.toList))=true:=by rw[qF,cQ];exact v
    have U:=gv (N.o.trans (by rw[aA v]));clear N v;generalize gC j=a6 at *;generalize bm:je g ((c.keys.zip m).take a)=xs at *;clear bm;go_wp2_with (at_builtin;refine aK _ rfl (.tmp 23) (.tmp 25) 29 rfl (f.heap.size+1) 67 i0 _ 7 112 cu hi bn bq br rfl (by decide) _ xs.length (xs.flatMap cellsOf) rfl ((M.o.own.alloc _).alloc _) ⟨wr.heap.size+1,0,none⟩ 1 1 [.int .i64 E,.int .i64 F,.int .i64 G,.string H,.slice B D C,.slice I K J,.slice x z y] rfl rfl ?hnews ?hone ?h63 ?hby ?hbs ?_)
    case hnews=>intro bz S hu;have:=jd (wr.alloc (.cells #[.int .i64 E,.int .i64 F,.int .i64 G,.string H,.slice B D C,.slice I K J,.slice x z y] 67)) (.cells #[.int .i64 E,.int .i64 F,.int .i64 G,.string H,.slice B D C,.slice I K J,.slice x z y] 67);rw[bM]at this;rw[aa,cb this];simpa using hu
    case hone=>exact a5.o.2
    case h63=>unfold maxLen;have:=ad.o;omega
    case hby=>have:=ad.o;omega
    case hbs=>simp;omega
    intro v6 w6 a3 a0 _;have T:=gv (M.o.grow (x:=.agg #[.int .i64 E,.int .i64 F,.int .i64 G,.string H,.slice B D C,.slice I K J,.slice x z y]) a3 a0);have bv:IntKind.i64.wrap ((a:Int)+1)=((a+1:Nat):Int):=by rw[bP];omega
    clear a3 a0 dk db d0 d1 d2 d3 d4 d5 d6;go_wp2;go_roundw
    case rel=>exact⟨a+1,by omega,by first | rfl | (congr 1),by rw[U.o];exact T.o⟩
    case measure=>simp[intOf];omega
   ·have hc:(((gC j).toList==g.toList))=false:=by rw[qF,bG];exact v
    have U:=gv (N.o.trans (by rw[au v,ct]));clear N v;generalize gC j=a6 at *;have T:=gv (M.o.alloc);go_wp2;go_roundw
    case rel=>exact⟨a+1,by omega,by first | rfl | (congr 1),by rw[U.o];exact T.o _⟩
    case measure=>simp[intOf];omega
def itemOf{k:Nat}(c:ByteArray)(b:Nat)(V:gz (VT k)):Option (VT k):=
 match jC c V.keys V.items with
 | [a]=>if kO a=b then some a else none
 |_=>none
def pT(f:Nat->Prop)(k:Nat)(g:Option (VT k))(a:World)(b:Ending)(d:World):Prop:=
 Below a.heap.size a d/\match g with
  |some h=>∃e,b=.returned e/\gR (λc=>f c/\c<a.heap.size) k d e h
  |none=>b=gU 4
theorem pT.none_{d:Nat->Prop}{k:Nat}{a:Option (VT k)}{w c:World}(b:Below w.heap.size w c)(e:a=none):pT d k a w (gU 4) c:=by subst e;exact⟨b,rfl⟩
theorem pT.some_{P:Nat->Prop}{k:Nat}{d:Option (VT k)}{y:VT k}{a:Value}{w w':World}(b:Below w.heap.size w w')(e:d=some y)(f:gR (λc=>P c/\c<w.heap.size) k w' a y):pT P k d w (.returned a) w':=by subst e;exact⟨b,a,rfl,f⟩
theorem C9{x:Nat->Prop}{k:Nat}{a:World}{C:Value}{g:gz (VT k)}(o:gR x (k+1) a C g)(hl:g.keys.length=g.items.length)(a0:g.items.length<=200000)(p:ByteArray)(r:Nat) :
  Calls Tryz.prog 198 #[C,.string p,.int .i64 (r:Int)] a (pT x k (itemOf p r g) a):=by
 obtain⟨O,P,R,S,L,N,M,T,V,U,E,G,F,bi⟩:=gR.form o;have Y:Hid (∀q:World,Below a.heap.size a q->Calls Tryz.prog 260 #[C,.string p] q λn j=>∃t,n=.returned t/\kK (λf=>x f/\f<a.heap.size) k (q.heap.size+1) (jC p g.keys g.items) j t/\Below q.heap.size q j):=
  λq b=>(AO (gR.keep (k+1) (gR.mono (Q:=λf=>x f/\f<a.heap.size) (k+1) o (λf H I=>⟨H,I⟩)) (λf _ hg=>b.block f hg)) hl a0 p).mono (λn j ⟨t,H,I,h3⟩=>⟨t,H,I.mono (λf o _=>o.1),h3⟩)
 subst bi;clear o;have v:Hid (Below a.heap.size a ((a.alloc (.cells #[.int .i64 O,.int .i64 P,.int .i64 R,.string S,.slice L N M,.slice T V U,.slice E G F] 67)).alloc (.cells gZ 67))):=
  ((aj _ _).alloc (af _) _).alloc (by simp) _
 have w:=gv (Y.o _ v.o);unfold gZ at w v;obtain⟨a9,J⟩:∃a9,itemOf p r g=a9:=⟨_,rfl⟩;have c:=gv J;unfold itemOf at c;rw[J];obtain⟨m,ao⟩:∃m,jC p g.keys g.items=m:=⟨_,rfl⟩;rw[ao]at c w;clear J ao hl a0 Y;go_enter Tryz.func198,Tryz.ntmps198;go_wp2_with fail;refine w.o.mono ?_;rintro n w2 ⟨t,rfl,hv,D⟩;have d:w2.heap[a.heap.size+1]?=some (.cells gZ 67 (0,0)):=by rw[D.block _ (by simp)];have:=jd (a.alloc (.cells #[.int .i64 O,.int .i64 P,.int .i64 R,.string S,.slice L N M,.slice T V U,.slice E G F] 67)) (.cells gZ 67);rw[bM]at this;exact this
 have s:=gv (v.o.trans (D.mono (by simp;omega)));have h:=gv hv;have a1:((a.alloc (.cells #[.int .i64 O,.int .i64 P,.int .i64 R,.string S,.slice L N M,.slice T V U,.slice E G F] 67)).alloc (.cells #[.int .i64 0,.int .i64 0,.int .i64 0,.string { data:=#[] },.slice none 0 0,.slice none 0 0,.slice none 0 0] 67)).heap.size=a.heap.size+1+1:=by simp
 rw[a1]at h;clear w D hv v a1;obtain⟨u,y⟩:∃u,a.heap.size+1=u:=⟨_,rfl⟩;rw[y]at d h;rw[y];have Z:=gv y;clear y;obtain⟨ia,ic,rfl⟩:=h.o.len;match m,c,h with
 | [],c,h=>go_wp2_with fail;refine(sn _).mono ?_;rintro n j ⟨rfl,rfl⟩;exact⟨rfl,.none_ s.o (by rw[<-c.o])⟩
 |W::X::m,c,h =>
  have t1:((((W::X::m).length:Nat):Int)==1)=false:=by simp;omega
  have t2:¬ (W::X::m).length=1:=by simp
  generalize (W::X::m).length=nn at *;go_wp2_with fail;refine(sn _).mono ?_;rintro n j ⟨rfl,rfl⟩;exact⟨rfl,.none_ s.o (by rw[<-c.o])⟩
 | [e],c,h =>
  obtain⟨f,bm,bq,bd,bc,bn,K,a2⟩:=h.o.at (i:=0) (y:=e) rfl;cases bd;simp only[]at c;have HX:=gv K;obtain⟨pp,a3,a5,a4,a6,a8,a7,ac,al,ad,rfl⟩:=gR.form2 K;have l:∀A B,([.int .i64 (kO e:Int),.int .i64 (rZ e),.int .i64 (pp:Int),.string (gC (tO e)),.slice a3 a5 a4,.slice a6 a8 a7,.slice ac al ad]:List Value)[A]?=some B->w2.cell? ⟨f,A,none⟩=some B:=λA B o=>by
   have:=a2 A B o
   rwa [Nat.zero_mul,b_]at this
  have d0:=l 0 _ rfl;have d1:=l 1 _ rfl;have d2:=l 2 _ rfl;have d3:=l 3 _ rfl;have d4:=l 4 _ rfl;have d5:=l 5 _ rfl;have d6:=l 6 _ rfl;clear l K a2 bc h;generalize rZ e=ny at *;generalize gC (tO e)=ty at *;by_cases z:kO e=r
  ·have t1:((kO e:Int)==(r:Int))=true:=by simp;omega
   rw[aA z]at c;obtain⟨r0,r1,r2,r3,r4,r5,r6⟩:=oX d;have f0:=ix 0 d;have f1:=ix 1 d;have f2:=ix 2 d;have f3:=ix 3 d;have f4:=ix 4 d;have f5:=ix 5 d;have f6:=ix 6 d;have HZ:=gv d;generalize (kO e:Int)=ky at *;clear d z;go_wp2_with fail;refine(oq _).mono ?_;rintro n j ⟨rfl,bf⟩;subst bf;go_wp2;refine aF (v:=.agg #[.int .i64 ky,.int .i64 ny,.int .i64 pp,.string ty,.slice a3 a5 a4,.slice a6 a8 a7,.slice ac al ad]) ?_ rfl ?_;·exact aJ Tryz.results198 _ _ (u) 67 _ _ _ rfl (m_ HZ.o _ _ _ _ _ _ _) aP rfl (by kernel_rfl)
   exact .some_ (s.o.trans ((ly j u _ _ _ _ _ _ _).below (by have:=s.o.size;omega) (by have:=Z.o;omega))) c.o.symm (gR.keep k HX.o (λg2 ba bb=>(ly j u _ _ _ _ _ _ _).block g2 bb (by have:=ba.2;have:=Z.o;omega)))
  ·have t1:((kO e:Int)==(r:Int))=false:=by simp;omega
   rw[au z]at c;generalize (kO e:Int)=ky at *;clear d z;go_wp2_with fail;refine(sn _).mono ?_;rintro n j ⟨rfl,rfl⟩;exact⟨rfl,.none_ s.o (by rw[<-c.o])⟩
end Go.Proofs.YtgkljcmjnphpeaaGreatDoor
