import Derived.Test.YtgkljcmjnphpeaaGreatDoorK13
set_option linter.unusedVariables false
set_option linter.unusedSimpArgs false
set_option maxHeartbeats 4000000
set_option maxRecDepth 100000
namespace Go.Proofs.YtgkljcmjnphpeaaGreatDoor
open Go.RowKit
section
variable{B bs cap:Nat}{ao:Option Addr}{data:List Nat}{a d f:Value}{w w':World}{q r:List Nat}
theorem qB.only{l:List Nat}{v:Value}(b:qB w B l v)(m:gQ bs w w')(n:B<=bs)(o:B<=w.heap.size):qB w' B l v:=by obtain⟨bd,off,c,e,g,h,h3,j⟩:=b;refine⟨bd,off,c,e,g,h,h3,λi k=>?_⟩;exact pU (j i k) (m.block _ (by show bd<_;omega) (by show bd≠bs;omega))
theorem gR.only{P:Nat->Prop}{k:Nat}{v:Value}{V:VT k}(b:gR P k w v V)(c:∀g,P g->g≠bs)(i:gQ bs w w'):gR P k w' v V:=
 gR.keep k b (λg e h=>i.block g h (c g e))
def Bm(B:Nat)(g:Nat->Prop)(k:Nat)(w:World)(e:gz (VT k) × List Nat)(h:Value):Prop:=
 ∃c b,h=.tuple #[c,b]/\gR g (k+1) w c e.1/\qB w B e.2 b
theorem A_{e:Func}{h j:Tmp}{i:TypeId}(k:e.results=#[.cell h i,.tmp j])(b:Array Value)(w:World)(g:Nat)(c:Array Value)
  (m:b.getD h undef=.pointer (some ⟨g,0,none⟩)) (l:(loadVar i ⟨g,0,none⟩).run Tryz.prog w=.ok (.agg c) w) :
  (results e b).run Tryz.prog w=.ok (.tuple #[.agg c,b.getD j undef]) w:=by
 rw[results_cell_tmp k,m];simp[asAddr,l]
theorem Lk{L:Nat->Prop}{k:Nat}{br:Value}{D:gz (VT k)}(j:Sc B bs ao cap data a d f w r)(hv:gR L (k+1) w br D)(hP:∀e,L e->e≠bs)(hl:D.keys.length=D.items.length)(cg:xS (k:=k+1) D) :
  Calls Tryz.prog 193 #[.pointer (some ⟨bs,0,none⟩),br] w (kg B bs ao cap data a d f (Bm B (λe=>L e\/w.heap.size<=e) k) (l6 D r) w):=by
 obtain⟨k0,k1,k2,k3,ja,jl,jc,bn,kl,bq,bi,fl,bm,dw⟩:=gR.form hv;have eb:=j.env;have ec:=j.lt;have K:=gv j.hb;have HP:=gv hP;have HL:=gv hl;have ea:=gv cg;obtain⟨dn,hR⟩:∃dn,l6 D r=dn:=⟨_,rfl⟩;rw[hR];have c:=gv hR;unfold l6 at c;have HI:Hid (∀M:World,gQ bs w M->Calls Tryz.prog 198 #[br,.string { data:=#[76,101,110,103,116,104] },.int .i64 2] M (pT L k (itemOf { data:=#[76,101,110,103,116,104] } 2 D) M)):=
  λM db=>C9 (gR.only hv hP db) hl cg.1 { data:=#[76,101,110,103,116,104] } 2
 have cd:Hid (∀M:World,gQ bs w M->Calls Tryz.prog 259 #[br] M (qn (λe=>(L e/\e<w.heap.size)\/M.heap.size<=e) (k+1) (j_ D) M)):=
  λM db=>KQ (gR.only (gR.mono (Q:=λe=>L e/\e<w.heap.size) (k+1) hv (λe p W=>⟨p,W⟩)) (λe l=>hP e l.1) db) hl cg
 subst dw;have b2:Below w.heap.size w ((w.alloc (.cells #[.int .i64 k0,.int .i64 k1,.int .i64 k2,.string k3,.slice ja jl jc,.slice bn kl bq,.slice bi fl bm] 67)).alloc (.cells gZ 67)):=((aj _ _).alloc (af _) _).alloc (by simp) _;have c2:((w.alloc (.cells #[.int .i64 k0,.int .i64 k1,.int .i64 k2,.string k3,.slice ja jl jc,.slice bn kl bq,.slice bi fl bm] 67)).alloc (.cells gZ 67)).heap[w.heap.size]?=some (.cells #[.int .i64 k0,.int .i64 k1,.int .i64 k2,.string k3,.slice ja jl jc,.slice bn kl bq,.slice bi fl bm] 67 (0,0)):=l9 _ (jd _ _);have g:((w.alloc (.cells #[.int .i64 k0,.int .i64 k1,.int .i64 k2,.string k3,.slice ja jl jc,.slice bn kl bq,.slice bi fl bm] 67)).alloc (.cells gZ 67)).heap[w.heap.size+1]?=some (.cells gZ 67 (0,0)):=by have:=jd (w.alloc (.cells #[.int .i64 k0,.int .i64 k1,.int .i64 k2,.string k3,.slice ja jl jc,.slice bn kl bq,.slice bi fl bm] 67)) (.cells gZ 67);simpa using this
 obtain⟨w2,c8⟩:∃w2,(w.alloc (.cells #[.int .i64 k0,.int .i64 k1,.int .i64 k2,.string k3,.slice ja jl jc,.slice bn kl bq,.slice bi fl bm] 67)).alloc (.cells gZ 67)=w2:=⟨_,rfl⟩;have c9:=c8;unfold gZ at c9;rw[c8]at b2 c2 g;have H1:=gv (tY (j.other b2) { data:=#[10] } (by decide) (by decide));rw[show bl { data:=#[10] }=[10]from rfl]at H1;have KW:=gv (gQ.of_below (b:=bs) b2);have bt:=gv c2;have bw:=gv g;have dl:=gv c9;clear j hv hP hl cg hR b2 c2 g c8 c9;cases e1:gH [10] r with
 |some q =>
  rw[e1]at H1 c;simp only[Option.some_or]at c;go_enter Tryz.func193,Tryz.ntmps193;go_wp2_with fail;rw[dl.o];refine H1.o.mono ?_;rintro i w3 ⟨rfl,p,Z⟩;have bz:=gv (show Sc B bs ao cap data a d f w3 q from p);have bd:=bt;have bf:=bw;have K2:=KW;have N:=gv ((Z.block _ (ae bd.o) (by omega)).trans bd.o);have a1:=gv ((Z.block _ (ae bf.o) (by omega)).trans bf.o);have T:=gv (K2.o.trans Z);clear p Z bt bw KW;go_wp2_with fail;refine(oq _).mono ?_;rintro i w' ⟨rfl,h⟩;have h:=h.symm;subst h;have bv:=gv (HI.o w3 T.o);obtain⟨d0,d1,d2,d3,d4,d5,d6⟩:=oX N.o;clear HI H1;go_wp2_with fail;refine bv.o.mono ?_;rintro i w4 ⟨V,H⟩;cases e4:itemOf { data:=#[76,101,110,103,116,104] } 2 D with
  |none=>rw[e4]at H c;simp only[]at H;subst H;exact⟨rfl,.none_ c.o.symm (T.o.trans (.of_below V))⟩
  |some a6 =>
   rw[e4]at H c;obtain⟨C,rfl,b9⟩:=H;simp only[]at c;obtain⟨py,ya,yl,yc,dd,dj,dg,de,dk,di,rfl⟩:=gR.form2 b9;have o4:gQ bs w3 w4:=.of_below V;have ac:=gv ((o4.block _ (ae N.o) (by omega)).trans N.o);have a2:=gv ((o4.block _ (ae a1.o) (by omega)).trans a1.o);have K4:=gv (T.o.trans o4);have a4:=gv (bz.o.other V);clear b9 V o4 bv e4 d0 d1 d2 d3 d4 d5 d6 bz;generalize gC (tO a6)=ty;generalize (kO a6:Int)=ky;generalize c7:rZ a6=z at *;clear c7;have c3:=Co (.int .i64 ky) (.int .i64 py) (.string ty) (.slice ya yl yc) (.slice dd dj dg) (.slice de dk di) z;by_cases hn:0<=z/\z<=(q.length:Int)
   ·rw[aA hn]at c;obtain⟨y,rfl⟩:∃y:Nat,z=(y:Int):=⟨z.toNat,by omega⟩;have c6:y<=q.length:=by omega
    rw[Int.toNat_natCast]at c;have S:=gv (zk a4.o y c6);clear hn;go_wp2_with fail;refine S.o.mono ?_;rintro i w5 ⟨pv,rfl,b7,X,o5⟩;have al:=gv ((o5.block _ (ae ac.o) (by omega)).trans ac.o);have a3:=gv ((o5.block _ (ae a2.o) (by omega)).trans a2.o);have K5:=gv (K4.o.trans o5);have b1:=gv b7;have cl:=gv X;have s:=gv (tY X { data:=#[10] } (by decide) (by decide));rw[show bl { data:=#[10] }=[10]from rfl]at s;have cw:=X.env;obtain⟨cs,dc,c5,rfl,_⟩:=b7;generalize (q.take y).length=ln at *;clear X o5 S a4 c3;cases e6:gH [10] (q.drop y)with
    |none=>rw[e6]at s c;go_wp2_with fail;refine s.o.mono ?_;rintro i w6 ⟨rfl,u,m⟩;have U:=gv (K5.o.trans m);clear u m;go_wp2_with fail;refine(sn _).mono ?_;rintro i w' ⟨rfl,h⟩;have h:=h.symm;subst h;exact⟨rfl,.none_ c.o.symm U.o⟩
    |some A =>
     rw[e6]at s c;simp only[]at c;go_wp2_with fail;refine s.o.mono ?_;rintro i w6 ⟨rfl,u,m⟩;have a0:=gv ((m.block _ (ae al.o) (by omega)).trans al.o);have P:=gv ((m.block _ (ae a3.o) (by omega)).trans a3.o);have U:=gv (K5.o.trans m);have b3:=gv (b1.o.only m K.o cw);have E:=gv (Eg (show Sc B bs ao cap data a d f w6 A from u));have c0:=u.env;have ck:Hid (∀C∈A,C<256):=λC hx=>(show Sc B bs ao cap data a d f w6 A from u).bytes C hx;clear u m s b1 cl e6;have dv:w.heap.size+1<w6.heap.size:=ae P.o;by_cases v:A.takeWhile pB=[101,110,100,115,116,114,101,97,109]
     ·rw[aA v]at c;rw[v,show gC [101,110,100,115,116,114,101,97,109]={ data:=#[101,110,100,115,116,114,101,97,109] }from rfl]at E;go_wp2_with fail;refine E.o.mono ?_;rintro i w7 ⟨rfl,I,n⟩;have O:=gv ((n.block _ (ae a0.o) (by omega)).trans a0.o);have R:=gv ((n.block _ (ae P.o) (by omega)).trans P.o);have t:=gv (U.o.trans n);have b5:=gv (b3.o.only n K.o c0);have b0:=gv I;have c1:=I.env;clear I n E b3 v;go_wp2_with fail;refine(oq _).mono ?_;rintro i w' ⟨rfl,h⟩;have h:=h.symm;subst h;obtain⟨d0,d1,d2,d3,d4,d5,d6⟩:=oX O.o;have F:=gv (cd.o w7 t.o);clear cd;cases e8:j_ D with
      |none=>rw[e8]at F c;go_wp2_with fail;refine F.o.mono ?_;rintro i w8 ⟨G,h8⟩;simp only[]at h8;subst h8;exact⟨rfl,.none_ c.o.symm (t.o.trans (.of_below G))⟩
      |some cr =>
       rw[e8]at F c;simp only[]at c;go_wp2_with fail;refine F.o.mono ?_;rintro i w8 ⟨G,sv,rfl,a5⟩;have J:gQ bs w7 w8:=.of_below G;have ch:=gv ((J.block _ (ae O.o) (by omega)).trans O.o);have bx:=gv ((J.block _ (ae R.o) (by omega)).trans R.o);have o:=gv (t.o.trans J);have co:=gv (b5.o.only J K.o c1);have cm:=gv (b0.o.other G);have cp:=gv a5;have ds:=t.o.size;have dr:=ae R.o;obtain⟨z0,z1,z2,z3,za,zl,zc,a7,bb,a9,a8,bc,ba,rfl⟩:=gR.form a5;have g:=bx.o;unfold gZ at g;have r0:=mb g;have f0:=ix 0 g;have r1:=oB g;have f1:=ix 1 g;have r2:=qJ g;have f2:=ix 2 g;have r3:=qU g;have f3:=ix 3 g;have r4:=pV g;have f4:=ix 4 g;have r5:=rj g;have f5:=ix 5 g;have r6:=sJ g;have f6:=ix 6 g;clear a5 G J F b5 b0 d0 d1 d2 d3 d4 d5 d6 g e8 O ch a0 al ac N R P a3 a2 a1;go_wp2;have hf:=m_ bx.o (.int .i64 z0) (.int .i64 z1) (.int .i64 z2) (.string z3) (.slice za zl zc) (.slice a7 bb a9) (.slice a8 bc ba);have x:=ly w8 (w.heap.size+1) (.int .i64 z0) (.int .i64 z1) (.int .i64 z2) (.string z3) (.slice za zl zc) (.slice a7 bb a9) (.slice a8 bc ba);refine aF (v:=.tuple #[.agg #[.int .i64 z0,.int .i64 z1,.int .i64 z2,.string z3,.slice za zl zc,.slice a7 bb a9,.slice a8 bc ba],.slice (some ⟨cs,dc,none⟩) ln c5]) ?_ rfl ?_;·exact A_ Tryz.results193 _ _ (w.heap.size+1) _ rfl (run_loadVar_row _ (w.heap.size+1) 67 67 _ _ _ hf aP rfl (by kernel_rfl))
       have Y:∀e,e≠w.heap.size+1->e<w8.heap.size->_:=λe p W=>x.block e W p;refine .some_ c.o.symm ⟨_,_,rfl,?_,?_⟩ ?_ ?_;·exact gR.mono (k+1) (gR.keep (P:=λe=>(L e/\e<w.heap.size)\/w7.heap.size<=e) (k+1) cp.o (λe l c4=>Y e (by rcases l with l | l<;>omega) c4)) (λe l _=>by rcases l with l | l;exact Or.inl l.1;exact Or.inr (by omega))
       ·exact co.o.only x (by have:=K.o;omega) (by have:=o.o.size;omega)
       ·have j:=cm.o;have b6:=o.o.size;have dp:=K.o;exact⟨j.hb,by rw[Y _ (by omega) (by omega)];exact j.blk,j.dat.other (λe l=>Y e (by omega) (by omega)),j.byt,j.len,j.lc,j.le,j.suf,j.ad⟩
       ·have b6:=o.o.size;exact⟨x.os.trans o.o.os,x.tape.trans o.o.tape,x.output.trans o.o.output,aD b6 x.size,λe p W=>(Y e (by omega) (by omega)).trans (o.o.block e p W)⟩
     ·rw[au v]at c;have t1:((gC (A.takeWhile pB)).toList==[101,110,100,115,116,114,101,97,109])=false:=by rw[oG,bG];intro i;refine v (z_ (λC hx=>ck.o C ((eE pB).subset hx)) (by decide) (i.trans rfl))
      generalize gC (A.takeWhile pB)=cr at *;clear v;go_wp2_with fail;refine E.o.mono ?_;rintro i w7 ⟨rfl,I,n⟩;have t:=gv (U.o.trans n);clear I n E;go_wp2_with fail;refine(sn _).mono ?_;rintro i w' ⟨rfl,h⟩;have h:=h.symm;subst h;exact⟨rfl,.none_ c.o.symm t.o⟩
   ·rw[au hn]at c;have S:=gv (Ei a4.o z (by omega));go_wp2_with fail;refine S.o.mono ?_;rintro i w5 ⟨rfl,m5,da⟩;exact⟨rfl,.none_ c.o.symm (K4.o.trans (.of_below (by rw[da];exact tN _ _)))⟩
 |none =>
  rw[e1]at H1 c;simp only[Option.none_or]at c;go_enter Tryz.func193,Tryz.ntmps193;go_wp2_with fail;rw[dl.o];refine H1.o.mono ?_;rintro i w9 ⟨rfl,p,o9⟩;have H2:=gv (tY (show Sc B bs ao cap data a d f w9 r from p) { data:=#[13,10] } (by decide) (by decide));rw[show bl { data:=#[13,10] }=[13,10]from rfl]at H2;have K9:=gv (KW.o.trans o9);have bd:=gv ((o9.block _ (ae bt.o) (by omega)).trans bt.o);have bf:=gv ((o9.block _ (ae bw.o) (by omega)).trans bw.o);clear p o9 bt bw KW H1 e1;cases e2:gH [13,10] r with
  |none=>rw[e2]at H2 c;go_wp2_with fail;refine H2.o.mono ?_;rintro i w3 ⟨rfl,h3,o3⟩;have T:=gv (K9.o.trans o3);clear h3 o3;go_wp2_with fail;refine(sn _).mono ?_;rintro i w' ⟨rfl,h⟩;have h:=h.symm;subst h;exact⟨rfl,.none_ c.o.symm T.o⟩
  |some q =>
   rw[e2]at H2 c;simp only[]at c;go_wp2_with fail;refine H2.o.mono ?_;rintro i w3 ⟨rfl,h3,Z⟩;have bz:=gv (show Sc B bs ao cap data a d f w3 q from h3);have K2:=K9;have N:=gv ((Z.block _ (ae bd.o) (by omega)).trans bd.o);have a1:=gv ((Z.block _ (ae bf.o) (by omega)).trans bf.o);have T:=gv (K2.o.trans Z);clear h3 Z bd bf;go_wp2_with fail;refine(oq _).mono ?_;rintro i w' ⟨rfl,h⟩;have h:=h.symm;subst h;have bv:=gv (HI.o w3 T.o);obtain⟨d0,d1,d2,d3,d4,d5,d6⟩:=oX N.o;clear HI H2;go_wp2_with fail;refine bv.o.mono ?_;rintro i w4 ⟨V,H⟩;cases e4:itemOf { data:=#[76,101,110,103,116,104] } 2 D with
   |none=>rw[e4]at H c;simp only[]at H;subst H;exact⟨rfl,.none_ c.o.symm (T.o.trans (.of_below V))⟩
   |some a6 =>
    rw[e4]at H c;obtain⟨C,rfl,b9⟩:=H;simp only[]at c;obtain⟨py,ya,yl,yc,dd,dj,dg,de,dk,di,rfl⟩:=gR.form2 b9;have o4:gQ bs w3 w4:=.of_below V;have ac:=gv ((o4.block _ (ae N.o) (by omega)).trans N.o);have a2:=gv ((o4.block _ (ae a1.o) (by omega)).trans a1.o);have K4:=gv (T.o.trans o4);have a4:=gv (bz.o.other V);clear b9 V o4 bv e4 d0 d1 d2 d3 d4 d5 d6 bz;generalize gC (tO a6)=ty;generalize (kO a6:Int)=ky;generalize c7:rZ a6=z at *;clear c7;have c3:=Co (.int .i64 ky) (.int .i64 py) (.string ty) (.slice ya yl yc) (.slice dd dj dg) (.slice de dk di) z;by_cases hn:0<=z/\z<=(q.length:Int)
    ·rw[aA hn]at c;obtain⟨y,rfl⟩:∃y:Nat,z=(y:Int):=⟨z.toNat,by omega⟩;have c6:y<=q.length:=by omega
     rw[Int.toNat_natCast]at c;have S:=gv (zk a4.o y c6);clear hn;go_wp2_with fail;refine S.o.mono ?_;rintro i w5 ⟨pv,rfl,b7,X,o5⟩;have al:=gv ((o5.block _ (ae ac.o) (by omega)).trans ac.o);have a3:=gv ((o5.block _ (ae a2.o) (by omega)).trans a2.o);have K5:=gv (K4.o.trans o5);have b1:=gv b7;have cl:=gv X;have s:=gv (tY X { data:=#[10] } (by decide) (by decide));rw[show bl { data:=#[10] }=[10]from rfl]at s;have cw:=X.env;obtain⟨cs,dc,c5,rfl,_⟩:=b7;generalize (q.take y).length=ln at *;clear X o5 S a4 c3;cases e6:gH [10] (q.drop y)with
     |none=>rw[e6]at s c;go_wp2_with fail;refine s.o.mono ?_;rintro i w6 ⟨rfl,u,m⟩;have U:=gv (K5.o.trans m);clear u m;go_wp2_with fail;refine(sn _).mono ?_;rintro i w' ⟨rfl,h⟩;have h:=h.symm;subst h;exact⟨rfl,.none_ c.o.symm U.o⟩
     |some A =>
      rw[e6]at s c;simp only[]at c;go_wp2_with fail;refine s.o.mono ?_;rintro i w6 ⟨rfl,u,m⟩;have a0:=gv ((m.block _ (ae al.o) (by omega)).trans al.o);have P:=gv ((m.block _ (ae a3.o) (by omega)).trans a3.o);have U:=gv (K5.o.trans m);have b3:=gv (b1.o.only m K.o cw);have E:=gv (Eg (show Sc B bs ao cap data a d f w6 A from u));have c0:=u.env;have ck:Hid (∀C∈A,C<256):=λC hx=>(show Sc B bs ao cap data a d f w6 A from u).bytes C hx;clear u m s b1 cl e6;have dv:w.heap.size+1<w6.heap.size:=ae P.o;by_cases v:A.takeWhile pB=[101,110,100,115,116,114,101,97,109]
      ·rw[aA v]at c;rw[v,show gC [101,110,100,115,116,114,101,97,109]={ data:=#[101,110,100,115,116,114,101,97,109] }from rfl]at E;go_wp2_with fail;refine E.o.mono ?_;rintro i w7 ⟨rfl,I,n⟩;have O:=gv ((n.block _ (ae a0.o) (by omega)).trans a0.o);have R:=gv ((n.block _ (ae P.o) (by omega)).trans P.o);have t:=gv (U.o.trans n);have b5:=gv (b3.o.only n K.o c0);have b0:=gv I;have c1:=I.env;clear I n E b3 v;go_wp2_with fail;refine(oq _).mono ?_;rintro i w' ⟨rfl,h⟩;have h:=h.symm;subst h;obtain⟨d0,d1,d2,d3,d4,d5,d6⟩:=oX O.o;have F:=gv (cd.o w7 t.o);clear cd;cases e8:j_ D with
       |none=>rw[e8]at F c;go_wp2_with fail;refine F.o.mono ?_;rintro i w8 ⟨G,h8⟩;simp only[]at h8;subst h8;exact⟨rfl,.none_ c.o.symm (t.o.trans (.of_below G))⟩
       |some cr =>
        rw[e8]at F c;simp only[]at c;go_wp2_with fail;refine F.o.mono ?_;rintro i w8 ⟨G,sv,rfl,a5⟩;have J:gQ bs w7 w8:=.of_below G;have ch:=gv ((J.block _ (ae O.o) (by omega)).trans O.o);have bx:=gv ((J.block _ (ae R.o) (by omega)).trans R.o);have o:=gv (t.o.trans J);have co:=gv (b5.o.only J K.o c1);have cm:=gv (b0.o.other G);have cp:=gv a5;have ds:=t.o.size;have dr:=ae R.o;obtain⟨z0,z1,z2,z3,za,zl,zc,a7,bb,a9,a8,bc,ba,rfl⟩:=gR.form a5;have g:=bx.o;unfold gZ at g;have r0:=mb g;have f0:=ix 0 g;have r1:=oB g;have f1:=ix 1 g;have r2:=qJ g;have f2:=ix 2 g;have r3:=qU g;have f3:=ix 3 g;have r4:=pV g;have f4:=ix 4 g;have r5:=rj g;have f5:=ix 5 g;have r6:=sJ g;have f6:=ix 6 g;clear a5 G J F b5 b0 d0 d1 d2 d3 d4 d5 d6 g e8 O ch a0 al ac N R P a3 a2 a1;go_wp2;have hf:=m_ bx.o (.int .i64 z0) (.int .i64 z1) (.int .i64 z2) (.string z3) (.slice za zl zc) (.slice a7 bb a9) (.slice a8 bc ba);have x:=ly w8 (w.heap.size+1) (.int .i64 z0) (.int .i64 z1) (.int .i64 z2) (.string z3) (.slice za zl zc) (.slice a7 bb a9) (.slice a8 bc ba);refine aF (v:=.tuple #[.agg #[.int .i64 z0,.int .i64 z1,.int .i64 z2,.string z3,.slice za zl zc,.slice a7 bb a9,.slice a8 bc ba],.slice (some ⟨cs,dc,none⟩) ln c5]) ?_ rfl ?_;·exact A_ Tryz.results193 _ _ (w.heap.size+1) _ rfl (run_loadVar_row _ (w.heap.size+1) 67 67 _ _ _ hf aP rfl (by kernel_rfl))
        have Y:∀e,e≠w.heap.size+1->e<w8.heap.size->_:=λe p W=>x.block e W p;refine .some_ c.o.symm ⟨_,_,rfl,?_,?_⟩ ?_ ?_;·exact gR.mono (k+1) (gR.keep (P:=λe=>(L e/\e<w.heap.size)\/w7.heap.size<=e) (k+1) cp.o (λe l c4=>Y e (by rcases l with l | l<;>omega) c4)) (λe l _=>by rcases l with l | l;exact Or.inl l.1;exact Or.inr (by omega))
        ·exact co.o.only x (by have:=K.o;omega) (by have:=o.o.size;omega)
        ·have j:=cm.o;have b6:=o.o.size;have dp:=K.o;exact⟨j.hb,by rw[Y _ (by omega) (by omega)];exact j.blk,j.dat.other (λe l=>Y e (by omega) (by omega)),j.byt,j.len,j.lc,j.le,j.suf,j.ad⟩
        ·have b6:=o.o.size;exact⟨x.os.trans o.o.os,x.tape.trans o.o.tape,x.output.trans o.o.output,aD b6 x.size,λe p W=>(Y e (by omega) (by omega)).trans (o.o.block e p W)⟩
      ·rw[au v]at c;have t1:((gC (A.takeWhile pB)).toList==[101,110,100,115,116,114,101,97,109])=false:=by rw[oG,bG];intro i;refine v (z_ (λC hx=>ck.o C ((eE pB).subset hx)) (by decide) (i.trans rfl))
       generalize gC (A.takeWhile pB)=cr at *;clear v;go_wp2_with fail;refine E.o.mono ?_;rintro i w7 ⟨rfl,I,n⟩;have t:=gv (U.o.trans n);clear I n E;go_wp2_with fail;refine(sn _).mono ?_;rintro i w' ⟨rfl,h⟩;have h:=h.symm;subst h;exact⟨rfl,.none_ c.o.symm t.o⟩
    ·rw[au hn]at c;have S:=gv (Ei a4.o z (by omega));go_wp2_with fail;refine S.o.mono ?_;rintro i w5 ⟨rfl,m5,da⟩;exact⟨rfl,.none_ c.o.symm (K4.o.trans (.of_below (by rw[da];exact tN _ _)))⟩
end
section
variable{w a:World}
theorem Jd{V:Nat->Prop}{k:Nat}{y:Value}{e:gz (VT k)}(c:gR V (k+1) w y e)(L:e.keys.length<=200000)(R:e.filters.length<=200000) :
  Calls Tryz.prog 177 #[y] w λi a=>i=.returned (.bool (lO e))/\Below w.heap.size w a:=by
 obtain⟨iv,kv,fv,vs,v,al,T,ao,U,S⟩:=c.parts;have P:Hid (∀h:World,Below w.heap.size w h->Calls Tryz.prog 232 #[y] h λi a=>i=.returned (.bool (lu e.keys e.items.length))/\Below h.heap.size h a):=
  λh b=>FJ (gR.keep (k+1) c (λB _ M=>b.block B M)) L
 have Q:Hid (∀h:World,Below w.heap.size w h->Calls Tryz.prog 233 #[y] h λi a=>i=.returned (.bool (lz e))/\Below h.heap.size h a):=
  λh b=>Dc (gR.keep (k+1) c (λB _ M=>b.block B M)) L R
 obtain⟨ia,ic,rfl⟩:=i_ T.1;obtain⟨ka,kc,rfl⟩:=i_ U.1;obtain⟨W,X,rfl⟩:=i_ S.1;clear c S T U ao;obtain⟨m,d⟩:∃m,lO e=m:=⟨_,rfl⟩;rw[d];unfold lO at d;unfold nV at v;generalize Z:lu e.keys e.items.length=a0 at *;generalize ac:lz e=St at *;have p:=gv (AL (gC e.text));have q:=gv (Db e.n e.places);generalize jM (gC e.text)=NM at *;generalize kD e.n e.places=RL at *;generalize e.n=s at *;generalize e.places=pp at *;generalize gC e.text=O at *;generalize e.filters.length=Y at v;generalize e.keys.length=kl at v;generalize vs.length=il at v;generalize ad:e.kind=f at *;subst v;clear ad L R al Z ac;have l:Hid (Below w.heap.size w (w.alloc (.cells #[.int .i64 (f:Int),.int .i64 s,.int .i64 (pp:Int),.string O,.slice ia il ic,.slice ka kl kc,.slice W Y X] 67))):=(aj _ _).alloc (af _) _;have n:=gv (P.o _ l.o);have r:=gv (Q.o _ l.o);clear P Q;by_cases C:f=0
 ·subst C;have g:Hid (m=_):=d.symm;clear d;clear n r p q;go_enter d7,dP;go_wp2;go_ret;exact⟨by rw[g.o];rfl,l.o⟩
 have t0:((f:Int)==0)=false:=by simp;omega
 by_cases H:f=6
 ·subst H;have g:Hid (m=_):=d.symm;clear d;clear n r p q;go_enter d7,dP;go_wp2;go_ret;exact⟨by rw[g.o];rfl,l.o⟩
 have t6:((f:Int)==6)=false:=by simp;omega
 by_cases K:f=9
 ·subst K;have g:Hid (m=_):=d.symm;clear d;clear n r p q;go_enter d7,dP;go_wp2;go_ret;exact⟨by rw[g.o];rfl,l.o⟩
 have t9:((f:Int)==9)=false:=by simp;omega
 by_cases D:f=1
 ·subst D;have g:Hid (m=_):=d.symm;clear d;clear n r p q;generalize u:decide (0<=s/\s<=1)=N at *;have A:Hid (∀h:World,Calls Tryz.prog 63 #[.int .i64 s,.int .i64 (0),.int .i64 (1)] h λi a=>i=.returned (.bool N)/\a=h):=λh=>by rw[<-u];exact Es s (0) (1) h
  clear u;go_enter d7,dP;go_wp2_with fail;refine(A.o _).mono ?_;rintro i x ⟨rfl,j⟩;have j:=j.symm;subst j;go_wp2;go_ret;exact⟨by rw[g.o];rfl,l.o⟩
 have t1:((f:Int)==1)=false:=by simp;omega
 by_cases E:f=2
 ·subst E;have g:Hid (m=_):=d.symm;clear d;clear n r p q;generalize u:decide (-2147483648<=s/\s<=2147483647)=N at *;have A:Hid (∀h:World,Calls Tryz.prog 63 #[.int .i64 s,.int .i64 (-2147483648),.int .i64 (2147483647)] h λi a=>i=.returned (.bool N)/\a=h):=λh=>by rw[<-u];exact Es s (-2147483648) (2147483647) h
  clear u;go_enter d7,dP;go_wp2_with fail;refine(A.o _).mono ?_;rintro i x ⟨rfl,j⟩;have j:=j.symm;subst j;go_wp2;go_ret;exact⟨by rw[g.o];rfl,l.o⟩
 have t2:((f:Int)==2)=false:=by simp;omega
 by_cases h3:f=3
 ·subst h3;have g:Hid (m=_):=d.symm;clear d;clear n r p;go_enter d7,dP;go_wp2_with fail;refine(q.o _).mono ?_;rintro i x ⟨rfl,j⟩;have j:=j.symm;subst j;go_wp2;go_ret;exact⟨by rw[g.o];rfl,l.o⟩
 have t3:((f:Int)==3)=false:=by simp;omega
 by_cases F:f=4
 ·subst F;have g:Hid (m=_):=d.symm;clear d;clear n r q;go_enter d7,dP;go_wp2_with fail;refine(p.o _).mono ?_;rintro i x ⟨rfl,j⟩;have j:=j.symm;subst j;go_wp2;go_ret;exact⟨by rw[g.o];rfl,l.o⟩
 have t4:((f:Int)==4)=false:=by simp;omega
 by_cases G:f=5
 ·subst G;have g:Hid (m=_):=d.symm;clear d;clear n r p q;go_enter d7,dP;go_wp2;go_ret;refine⟨?_,l.o⟩;rw[g.o];show Ending.returned (Value.bool (decide ((O.size:Int)<=4000)))=Ending.returned (Value.bool (decide (O.size<=4000)));congr 2;rw[dN];omega
 have t5:((f:Int)==5)=false:=by simp;omega
 by_cases I:f=7
 ·subst I;have g:Hid (m=_):=d.symm;clear d;clear r p q;go_enter d7,dP;go_wp2_with fail;refine n.o.mono ?_;rintro i x ⟨rfl,t⟩;have z:=gv (l.o.trans (t.mono (by simp)));clear t;go_wp2;go_ret;exact⟨by rw[g.o];rfl,z.o⟩
 have t7:((f:Int)==7)=false:=by simp;omega
 by_cases J:f=8
 ·subst J;have g:Hid (m=_):=d.symm;clear d;clear n p q;go_enter d7,dP;go_wp2_with fail;refine r.o.mono ?_;rintro i x ⟨rfl,t⟩;have z:=gv (l.o.trans (t.mono (by simp)));clear t;go_wp2;go_ret;exact⟨by rw[g.o];rfl,z.o⟩
 have t8:((f:Int)==8)=false:=by simp;omega
 have g:Hid (m=false):=by
  unfold Hid;rw[<-d];match f,C,D,E,h3,F,G,H,I,J,K with
  |0,c,_,_,_,_,_,_,_,_,_=>exact absurd rfl c
  |1,_,c,_,_,_,_,_,_,_,_=>exact absurd rfl c
  |2,_,_,c,_,_,_,_,_,_,_=>exact absurd rfl c
  |3,_,_,_,c,_,_,_,_,_,_=>exact absurd rfl c
  |4,_,_,_,_,c,_,_,_,_,_=>exact absurd rfl c
  |5,_,_,_,_,_,c,_,_,_,_=>exact absurd rfl c
  |6,_,_,_,_,_,_,c,_,_,_=>exact absurd rfl c
  |7,_,_,_,_,_,_,_,c,_,_=>exact absurd rfl c
  |8,_,_,_,_,_,_,_,_,c,_=>exact absurd rfl c
  |9,_,_,_,_,_,_,_,_,_,c=>exact absurd rfl c
  |a1+10,_,_,_,_,_,_,_,_,_,_=>rfl
 clear d C D E h3 F G H I J K n r p q;generalize (f:Int)=a2 at *;go_enter d7,dP;go_wp2;go_ret;exact⟨by rw[g.o];rfl,l.o⟩
end
end Go.Proofs.YtgkljcmjnphpeaaGreatDoor
