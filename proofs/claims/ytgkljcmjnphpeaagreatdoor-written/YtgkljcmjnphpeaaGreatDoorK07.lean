import Derived.Test.YtgkljcmjnphpeaaGreatDoorK06
set_option linter.unusedVariables false
set_option linter.unusedSimpArgs false
set_option maxHeartbeats 4000000
set_option maxRecDepth 100000
namespace Go.Proofs.YtgkljcmjnphpeaaGreatDoor
open Go.RowKit
section
variable{E:World}{B n f K k:Nat}{z:Option Addr}{d:List Nat}{A C D:Value}{w w':World}{q r:List Nat}{l F:Value}{G:List Value}{p:List (VT k)}{t:List (List Nat)}
def s8(B n:Nat)(z:Option Addr)(f:Nat)(d:List Nat)(A C D:Value)(k:Nat)(e:Option (VT k × List Nat))(w:World)(b:Ending)(w':World):Prop:=
 kg B n z f d A C D (λw' a g=>gR (λc=>w.heap.size<=c) k w' g a) e w b w'
def VO(B n:Nat)(z:Option Addr)(f:Nat)(d:List Nat)(A C D:Value)(k:Nat):Prop:=
 ∀(a:World) (r:List Nat),o_ B a->Sc B n z f d A C D a r->Calls Tryz.prog 192 #[.pointer (some ⟨n,0,none⟩),.int .i64 (13-k:Nat)] a (s8 B n z f d A C D k (gI k r) a)
def rP{a:Type}(p:List a)(c:Option (List a × List Nat)):Option (List a × List Nat):=c.map λb=>(p++b.1,b.2)
theorem GZ{c:Type}(p:List c)(e:c)(a:Option (List c × List Nat)):rP p (a.map λb=>(e::b.1,b.2))=rP (p++[e]) a:=by
 cases a with
 |none=>rfl
 |some b=>simp[rP]
theorem Ar.start(a:Sc B n z f d A C D w r):Ar w B n z f d A C D K k ((w.alloc (.cells gZ 67)).alloc (.cells #[.int .i64 (K:Int),.int .i64 0,.int .i64 0,.string { data:=#[] },.slice none 0 0,.slice none 0 0,.slice none 0 0] 67)) r (.slice none 0 0) [] [] (.slice none 0 0) []:=by have b:Below w.heap.size w ((w.alloc (.cells gZ 67)).alloc (.cells #[.int .i64 (K:Int),.int .i64 0,.int .i64 0,.string { data:=#[] },.slice none 0 0,.slice none 0 0,.slice none 0 0] 67)):=((aj _ _).alloc (af _) _).alloc (by simp) _;have e:=a.le;have g:=a.len;refine⟨a.other b,.of_below b,a.lt,l9 _ (jd _ _),?_,bk _ _ _ _,bk _ _ _ _,rfl,λh i j c _=>by simp at c,by simp only[aw];omega,by simp only[aw];omega⟩;have:=jd (w.alloc (.cells gZ 67)) (.cells #[.int .i64 (K:Int),.int .i64 0,.int .i64 0,.string { data:=#[] },.slice none 0 0,.slice none 0 0,.slice none 0 0] 67);simpa using this
theorem Ar.fin(a:Ar E B n z f d A C D K k w q l G p F t)(g:gQ E.heap.size w w') :
  gR (λb=>E.heap.size<=b) (k+1) w' (.agg #[.int .i64 (K:Int),.int .i64 0,.int .i64 0,.string { data:=#[] },l,F,.slice none 0 0]) (⟨K,0,0,[],p,t,[]⟩:gz (VT k))/\Sc B n z f d A C D w' q/\gQ n E w':=by
 have o:=a.lt;have i:=a.only.size;have j:=a.sc.hb;have s:=ae a.rb;have h:∀b,b<w.heap.size->b≠E.heap.size->w'.heap[b]?=w.heap[b]?:=λb c e=>g.block b c e;refine⟨gR.mono (k+1) (gR.keep (k+1) a.val (λb c e=>h b e (by omega))) (λb c _=>by omega),?_,?_⟩;·exact⟨a.sc.hb,by rw[h _ (by omega) (by omega)];exact a.sc.blk,a.sc.dat.other (λb m=>h b (by omega) (by omega)),a.sc.byt,a.sc.len,a.sc.lc,a.sc.le,a.sc.suf,a.sc.ad⟩
 ·exact⟨g.os.trans a.only.os,g.tape.trans a.only.tape,g.output.trans a.only.output,aD i g.size,λb c e=>(h b (by omega) (by omega)).trans (a.only.block b c e)⟩
theorem zU{a:Array Bool}{e:Nat}(c:a.getD e true=false):a.getD e false=false:=by
 rcases bZ e a.size with b | b;·simp[b]at c ⊢;exact c
 ·simp[Nat.not_lt.2 b]at c
def mV(b:Nat)(l:Value)(a:Array Bool)(c:World):Prop:=a.getD 9 false=false->c.cell? ⟨b,4,none⟩=some l
theorem mV.set{b i:Nat}{l:Value}{a:Array Bool}{c:World}(e:i≠9):mV b l a c↔mV b l (a.setIfInBounds i true) c:=by unfold mV;rw[eL false e]
theorem Ee(hk:k<=11)(ih:VO B n z f d A C D k)(he:o_ B w)(bn:Sc B n z f d A C D w r) :
  Calls Tryz.prog 252 #[.pointer (some ⟨n,0,none⟩),.int .i64 (12-k:Nat)] w (s8 B n z f d A C D (k+1) ((j3 (gI k) (r.length+1) r).map λT=>((⟨6,0,0,[],T.1,[],[]⟩:gz (VT k)),T.2)) w):=by
 obtain⟨i0,hi,cd,cg,ch⟩:=bu iV;have IH:=gv ih;have HE:=gv he;have ba:=gv bn;clear ih he bn;obtain⟨y,hR⟩:∃y,j3 (gI k) (r.length+1) r=y:=⟨_,rfl⟩;rw[hR];have M:Hid (rP [] (j3 (gI k) (r.length+1) r)=y):=by unfold Hid;rw[<-hR];unfold rP;cases j3 (gI k) (r.length+1) r<;>simp
 clear hR;go_enter Tryz.func252,Tryz.ntmps252;go_wp2;go_loopw [7] (λ_ wr=>∃(v:Nat) (q:List Nat) (l:Value) (G:List Value) (p:List (VT k)),Hid (Ar w B n z f d A C D 6 k wr q l G p (.slice none 0 0) [])/\q.length<v/\Hid (rP p (j3 (gI k) v q)=y)) (λ_ wr=>d.length-posS n wr)
 case atStart=>exact⟨r.length+1,r,.slice none 0 0,[],[],Ar.start ba.o,by omega,M⟩
 clear ba M
 case round =>
  obtain⟨v,q,l,G,p,x,hm,M⟩:=hrel;obtain⟨v,rfl⟩:∃m',v=m'+1:=⟨v-1,by omega⟩;have bx:=gv x.o.sc.posS;have cw:=x.o.sc.le;have L:=gv (wP x.o.sc { data:=#[93] } (by decide) (by decide));rw[bo,show(UInt8.toNat 93)=93 from rfl]at L;have b8:=jo q;cases R:gH [93] (gG q)with
  |some q1 =>
   rw[R]at L;have b7:=(ie R).1;simp only[ag,aw]at b7;have b0:Hid (y=some (p,q1)):=by unfold Hid;rw[<-M.o,j3,R];simp[rP]
   clear R M;go_wp2_with fail;refine L.o.mono ?_;rintro Y H ⟨rfl,Z,k1⟩;have e:=gv (x.o.step (show Sc B n z f d A C D H q1 from Z) k1 (by omega));obtain⟨ia,ic,b6⟩:=i_ e.o.own;subst b6;have j:=e.o.rb;have ac:=e.o.vb;obtain⟨v0,v1,v2,v3,v4,v5,v6⟩:=oX ac;obtain⟨r0,r1,r2,r3,r4,r5,r6⟩:=oX j;have f0:=ix 0 j;have f1:=ix 1 j;have f2:=ix 2 j;have f3:=ix 3 j;have f4:=ix 4 j;have f5:=ix 5 j;have f6:=ix 6 j;have HF:=gv (m_ j (.int .i64 6) (.int .i64 0) (.int .i64 0) (.string { data:=#[] }) (.slice ia G.length ic) (.slice none 0 0) (.slice none 0 0));have HO:=gv (ly H w.heap.size (.int .i64 6) (.int .i64 0) (.int .i64 0) (.string { data:=#[] }) (.slice ia G.length ic) (.slice none 0 0) (.slice none 0 0));clear Z k1 L j ac;go_wp2;refine aF (v:=.agg #[.int .i64 6,.int .i64 0,.int .i64 0,.string { data:=#[] },.slice ia G.length ic,.slice none 0 0,.slice none 0 0]) ?_ rfl ?_;·exact aJ Tryz.results252 _ _ w.heap.size 67 _ _ _ rfl HF.o aP rfl (by kernel_rfl)
   obtain⟨m,s,u⟩:=e.o.fin HO.o;exact kg.some_ (by rw[b0.o];rfl) m s u
  |none =>
   rw[R]at L;have U:Hid (rP p (match gI k (gG q)with | none=>none | some (al,q)=>(j3 (gI k) v q).map λT=>(al::T.1,T.2))=y):=by
    unfold Hid;rw[<-M.o];conv=>rhs;rw[j3,R]
    cases gI k (gG q)<;>rfl
   clear R M;go_wp2_with fail;refine L.o.mono ?_;rintro Y H ⟨rfl,Z,k1⟩;have e:=gv (x.o.step (show Sc B n z f d A C D H (gG q)from Z) k1 b8);clear Z k1 L;have ac:=e.o.vb;have br:=pV ac;have bt:=gv br;have ck:Hid (((12-k:Nat):Int)+1=((13-k:Nat):Int)):=by unfold Hid;omega
   have cp:12-k<=12:=by omega
   have X:=gv (IH.o H.drew (gG q) (HE.o.only x.o.sc.hb (e_ (dD x.o.sc.hb x.o.lt)) (e.o.drew.only)) e.o.drew.sc);obtain⟨cm,c1,b5⟩:=i_ e.o.own;clear br ac;go_wp2_with fail;refine p7 (mV (w.heap.size+1) l) (by kernel_rfl) ?_;intro a;have b:mV (w.heap.size+1) l (Array.replicate 10 false) H.drew:=λ_=>bt.o;refine ti 0 ?_ a b ?_;clear a b;intro a b;(try simp only[gB])
   refine tk 1 ?_ a ?_ b ?_;rotate_left;·intro cl hW;obtain⟨b1,b2,hL,b3⟩:=hW;have cr:=b3 (by cases h9:b1.getD 9 false with | false=>rfl | true=>exact absurd (b2.came 2 9 (by kernel_rfl) h9) (by rw[zU hL];decide));go_simp;try(with_reducible rfl)
   clear a b;intro a b;(try simp only[gB])
   refine ti 2 ?_ a b ?_;clear a b;intro a b;(try simp only[gB])
   refine ti 3 ?_ a b ?_;clear a b;intro a b;(try simp only[gB])
   refine ti 4 ?_ a b ?_;clear a b;intro a b;(try simp only[gB])
   have bf:Hid (IntKind.i64.wrap (((12-k:Nat):Int)+1)=((13-k:Nat):Int)):=by unfold Hid;rw[bP];omega
   cases hv:gI k (gG q)with
   |none =>
    rw[hv]at X U;have bv:Hid (y=none):=by unfold Hid;rw[<-U.o];rfl
    clear hv U;refine on 5 a λi c=>?_;go_simp;rw[bf.o];refine X.o.mono ?_;rintro Y I ⟨rfl,k2⟩;exact⟨rfl,kg.none_ (by rw[bv.o];rfl) (e.o.drew.only.trans k2)⟩
   |some T =>
    obtain⟨bm,q2⟩:=T;rw[hv]at X U;have c0:=kY hv;have bz:Hid (rP (p++[bm]) (j3 (gI k) v q2)=y):=by unfold Hid;rw[<-U.o];exact(GZ _ _ _).symm
    clear hv U;refine on 5 a λi c=>?_;go_simp;rw[bf.o];refine X.o.mono ?_;rintro Y I ⟨al,rfl,ad,h2,k2⟩;have W:=gv (e.o.drew.step h2 k2 (by omega));have bb:Hid (I.cell? ⟨w.heap.size+1,4,none⟩=some l):=by unfold Hid;rw[cb W.o.vb];rfl
    have bd:=gv ad;have bq:=ad.cells;obtain⟨N,m,s,u,O,P,Q,rfl⟩:∃N m s u O P Q,al=.agg #[N,m,s,u,O,P,Q]:=gR.agg ad;have c2:=h2.lt;clear ad h2 k2 X;refine c.o _ _ (λ_=>bb.o) (λg h=>?_);clear a b c i;have a:=g;have b:=h;clear g h
    (try simp only[gB])
    refine on 6 a λi c=>?_;go_simp;have J:=gv (W.o.alloc (.cells #[N,m,s,u,O,P,Q] 67));have bc:Hid ((I.alloc (.cells #[N,m,s,u,O,P,Q] 67)).cell? ⟨w.heap.size+1,4,none⟩=some l):=by unfold Hid;rw[cb J.o.vb];rfl
    refine c.o _ _ (λ_=>bc.o) (λg h=>?_);clear a b c i;have a:=g;have b:=h;clear g h
    (try simp only[gB])
    refine on 7 a λi c=>?_;have cs:=e.o.few;have c3:=W.o.only.size;have c4:=ae W.o.vb;refine vX rfl (.tmp 11) (.tmp 16) 29 rfl (w.heap.size+2) 67 i0 _ 7 112 cu hi cd cg ch rfl (by decide) l G.length (G.flatMap cellsOf) (by rw[b5];rfl) J.o.own ⟨I.heap.size,0,none⟩ 1 1 [N,m,s,u,O,P,Q] rfl rfl ?hnews ?hone ?h63 ?hby ?hbs ?_
    case hnews=>intro c5 c7 hu;rw[aa,cb (jd I _)];simpa using hu
    case hone=>exact bq.2
    case h63=>unfold maxLen;omega
    case hby=>omega
    case hbs=>simp;omega
    intro v6 w6 a9 a7 bs;have bi:Hid (gR (λV=>H.drew.heap.size<=V) k (I.alloc (.cells #[N,m,s,u,O,P,Q] 67)) (.agg #[N,m,s,u,O,P,Q]) bm):=gR.keep k bd.o (λV _ hg=>((aj I.heap.size I).alloc (af _) _).block V hg);have H6:=gv (J.o.item (S:=H.heap.size) (λV hg=>(e.o.own.lt V hg).2) (λV hg=>by cases hg) (by have:=ae e.o.vb;omega) bi.o a9 a7 bs (by omega));have a8:w6.heap[w.heap.size+1]?=some (.cells #[.int .i64 6,.int .i64 0,.int .i64 0,.string { data:=#[] },l,.slice none 0 0,.slice none 0 0] 67 (0,0)):=by rw[a7.block _ (by have:=ae J.o.vb;exact this) (λY=>by have:=(J.o.own.lt _ Y.symm).1;omega)];exact J.o.vb
    have ao:=pV a8;have b4:=ix 4 a8;obtain⟨co,c6,b9⟩:=i_ a9;subst b9;have bw:=gv H6.o.sc.posS;clear a9 a7 bs a8 J bi bd bc bb W bq;refine c.o _ _ (λ_=>ao) (λg h=>?_);clear a b c i;have a:=g;have b:=h;clear g h
    (try simp only[gB])
    refine on 8 a λi c=>?_;go_simp;refine c.o _ _ (λ_=>ao) (λg h=>?_);clear a b c i;have a:=g;have b:=h;clear g h
    (try simp only[gB])
    refine on 9 a λi c=>?_;go_simp;refine c.o _ _ (λh9=>by cases h9) (λg h=>?_);clear a b c i;have a:=g;have b:=h;clear g h
    (try simp only[gB])
    refine mI (by kernel_rfl) ?_ _;clear a b ao b4;go_wp2;go_roundw
    case rel=>exact⟨v,q2,_,_,_,H6,by omega,bz⟩
    case measure=>rw[bx.o,bw.o];omega
theorem Ar.key(c:Ar E B n z f d A C D K k w q l G p F t){o:List Nat}{h:Value}
  (x:w'.ownsRow (E.heap.size+2) 9 1 h (t.length+1) ((t.map λo=>.string (gC o))++[.string (gC o)])) (i:w.grownBy w' F.ownBlock) (N:∀b,h.ownBlock=some b->F.ownBlock=some b\/w.heap.size<=b) (I:t.length+1+q.length<=200000) :
  Ar E B n z f d A C D K k (w'.setCell ⟨E.heap.size+1,5,none⟩ h) q l G p h (t++[o]):=by
 have U:=c.lt;have V:=c.only.size;have L:=ae c.vb;have S:=c.sc.hb;have T:∀b,l.ownBlock=some b->E.heap.size+2<=b/\b<w.heap.size:=c.own.lt;have u:∀b,F.ownBlock=some b->E.heap.size+2<=b/\b<w.heap.size:=c.ownk.lt;have v:∀b,b<w.heap.size->F.ownBlock≠some b->b≠E.heap.size+1->(w'.setCell ⟨E.heap.size+1,5,none⟩ h).heap[b]?=w.heap[b]?:=λb e j h3=>by rw[jL _ h3,i.block b e (λg=>j g.symm)]
 have m:∀b,b<E.heap.size+1->(w'.setCell ⟨E.heap.size+1,5,none⟩ h).heap[b]?=w.heap[b]?:=λb e=>v b (by omega) (λg=>by have:=u b g;omega) (by omega);have M:w'.heap[E.heap.size+1]?=some (.cells #[.int .i64 (K:Int),.int .i64 0,.int .i64 0,.string { data:=#[] },l,F,.slice none 0 0] 67 (0,0)):=by rw[i.block _ L (λg=>by have:=u _ g.symm;omega)];exact c.vb
 refine⟨⟨c.sc.hb,by rw[m _ (by omega)];exact c.sc.blk,c.sc.dat.other (λb i=>m b (by omega)),c.sc.byt,c.sc.len,c.sc.lc,c.sc.le,c.sc.suf,c.sc.ad⟩,?_,c.lt,by rw[m _ (by omega)];exact c.rb,?_,?_,?_,c.len,?_,c.few,by rw[ab];exact I⟩;·exact⟨i.os.trans c.only.os,i.tape.trans c.only.tape,i.output.trans c.only.output,by have:=i.size;simp[World.setCell];omega,λb e j=>(m b (by omega)).trans (c.only.block b e j)⟩
 ·rw[lq _ M];rfl
 ·have:=c.own.kept i (by
   cases J:l.ownBlock with
   |none=>exact Or.inl rfl
   |some b=>refine Or.inr (λg=>?_);exact yY c.own c.ownk (by decide) b J g.symm)
  exact aR this (λg=>absurd (this.lt (E.heap.size+1) g).1 (by omega)) h
 ·rw[ab,aH];have:=aR (a:=⟨E.heap.size+1,5,none⟩) x (λg=>absurd (x.lt (E.heap.size+1) g).1 (by omega)) h;simpa using this
 ·intro Q y H O P;have R:gR (λb=>E.heap.size+2<=b/\l.ownBlock≠some b/\F.ownBlock≠some b/\h.ownBlock≠some b) k w y H:=by
   refine gR.mono k (c.ch Q y H O P) (λb e j=>⟨e.1,e.2.1,e.2.2,λg=>?_⟩);rcases N b g with s | s;·exact e.2.2 s
   ·omega
  refine gR.mono k (gR.keep k R (λb e j=>v b j e.2.2.1 (by omega))) (λb e _=>⟨e.1,e.2.1,e.2.2.2⟩)
def nj(e b g:Nat)(h:Value)(a:Array Bool)(c:World):Prop:=a.getD e false=false->c.cell? ⟨b,g,none⟩=some h
theorem nj.set{a b g i:Nat}{h:Value}{c:Array Bool}{e:World}(j:i≠a):nj a b g h c e↔nj a b g h (c.setIfInBounds i true) e:=by unfold nj;rw[eL false j]
def rO{b:Type}(t:List (List Nat))(p:List b)(c:Option ((List (List Nat) × List b) × List Nat)):Option ((List (List Nat) × List b) × List Nat):=c.map λa=>((t++a.1.1,p++a.1.2),a.2)
theorem GQ{c:Type}(t:List (List Nat))(p:List c)(g:List Nat)(e:c)(b:Option ((List (List Nat) × List c) × List Nat)):rO t p (b.map λa=>((g::a.1.1,e::a.1.2),a.2))=rO (t++[g]) (p++[e]) b:=by
 cases b with
 |none=>rfl
 |some a=>simp[rO]
theorem Gw(hk:k<=11)(ih:VO B n z f d A C D k)(he:o_ B w)(b8:Sc B n z f d A C D w r) :
  Calls Tryz.prog 197 #[.pointer (some ⟨n,0,none⟩),.int .i64 (12-k:Nat)] w (s8 B n z f d A C D (k+1) ((jh (gI k) (r.length+1) r).map λj=>((⟨7,0,0,[],j.1.2,j.1.1,[]⟩:gz (VT k)),j.2)) w):=by
 obtain⟨i0,hi,dd,de,dg⟩:=bu iV;obtain⟨j0,ji,dj,dk,dl⟩:=bu iS;have IH:=gv ih;have HE:=gv he;have bz:=gv b8;clear ih he b8;obtain⟨v,hR⟩:∃v,jh (gI k) (r.length+1) r=v:=⟨_,rfl⟩;rw[hR];have H:Hid (rO [] [] (jh (gI k) (r.length+1) r)=v):=by unfold Hid;rw[<-hR];unfold rO;cases jh (gI k) (r.length+1) r<;>simp
 clear hR;go_enter Tryz.func197,Tryz.ntmps197;go_wp2;go_loopw [7] (λ_ wr=>∃(O:Nat) (q:List Nat) (l:Value) (G:List Value) (p:List (VT k)) (F:Value) (t:List (List Nat)),Hid (Ar w B n z f d A C D 7 k wr q l G p F t)/\q.length<O/\Hid (rO t p (jh (gI k) O q)=v)) (λ_ wr=>d.length-posS n wr)
 case atStart=>exact⟨r.length+1,r,.slice none 0 0,[],[],.slice none 0 0,[],Ar.start bz.o,by omega,H⟩
 clear bz H
 case round =>
  obtain⟨O,q,l,G,p,F,t,s,hm,H⟩:=hrel;obtain⟨O,rfl⟩:∃m',O=m'+1:=⟨O-1,by omega⟩;have cm:=gv s.o.sc.posS;have d0:=s.o.sc.le;have V:=gv (wP s.o.sc { data:=#[62,62] } (by decide) (by decide));rw[show bl { data:=#[62,62] }=[62,62]from rfl]at V;have c8:=jo q;cases M:gH [62,62] (gG q)with
  |some Q =>
   rw[M]at V;have bs:=(ie M).1;simp only[ag,aw]at bs;have cp:Hid (v=some ((t,p),Q)):=by unfold Hid;rw[<-H.o,jh,M];simp[rO]
   clear M H;go_wp2_with fail;refine V.o.mono ?_;rintro i w1 ⟨rfl,h1,k1⟩;have m:=gv (s.o.step (show Sc B n z f d A C D w1 Q from h1) k1 (by omega));obtain⟨ia,ic,c3⟩:=i_ m.o.own;obtain⟨ja,jc,c5⟩:=i_ m.o.ownk;subst c3;subst c5;have x:=m.o.rb;have a9:=m.o.vb;obtain⟨v0,v1,v2,v3,v4,v5,v6⟩:=oX a9;obtain⟨r0,r1,r2,r3,r4,r5,r6⟩:=oX x;have f0:=ix 0 x;have f1:=ix 1 x;have f2:=ix 2 x;have f3:=ix 3 x;have f4:=ix 4 x;have f5:=ix 5 x;have f6:=ix 6 x;have HF:=gv (m_ x (.int .i64 7) (.int .i64 0) (.int .i64 0) (.string { data:=#[] }) (.slice ia G.length ic) (.slice ja t.length jc) (.slice none 0 0));have HO:=gv (ly w1 w.heap.size (.int .i64 7) (.int .i64 0) (.int .i64 0) (.string { data:=#[] }) (.slice ia G.length ic) (.slice ja t.length jc) (.slice none 0 0));clear h1 k1 V x a9;go_wp2;refine aF (v:=.agg #[.int .i64 7,.int .i64 0,.int .i64 0,.string { data:=#[] },.slice ia G.length ic,.slice ja t.length jc,.slice none 0 0]) ?_ rfl ?_;·exact aJ Tryz.results197 _ _ w.heap.size 67 _ _ _ rfl HF.o aP rfl (by kernel_rfl)
   obtain⟨I,J,L⟩:=m.o.fin HO.o;exact kg.some_ (by rw[cp.o];rfl) I J L
  |none =>
   rw[M]at V;go_wp2_with fail;refine V.o.mono ?_;rintro i w1 ⟨rfl,h1,k1⟩;have m:=gv (s.o.step (show Sc B n z f d A C D w1 (gG q)from h1) k1 c8);clear h1 k1 V;have al:=gv (wP m.o.sc { data:=#[47] } (by decide) (by decide));rw[bo,show(UInt8.toNat 47)=47 from rfl,kV]at al;cases ad:gH [47] (gG q)with
   |none =>
    rw[ad]at al;have a7:Hid (v=none):=by unfold Hid;rw[<-H.o,jh,M,ad];rfl
    clear M H ad;go_wp2_with fail;refine al.o.mono ?_;rintro i w2 ⟨rfl,h2,N⟩;go_wp2_with fail;refine(sn _).mono ?_;rintro i w' ⟨rfl,rfl⟩;exact⟨rfl,kg.none_ (by rw[a7.o];rfl) (m.o.only.trans N)⟩
   |some Q =>
    rw[ad]at al;have bs:=(ie ad).1;simp only[ag,aw]at bs;have u:Hid (rO t p (match ke Q with | none=>none | some (y,q2)=>match gI k q2 with | none=>none | some (ba,q3)=>(jh (gI k) O q3).map λj=>((y::j.1.1,ba::j.1.2),j.2))=v):=by
     unfold Hid;rw[<-H.o];simp only[jh,M,ad];cases ke Q with
     |none=>rfl
     |some j=>obtain⟨y,q2⟩:=j;simp only[];cases gI k q2<;>rfl
    clear M H ad;go_wp2_with fail;refine al.o.mono ?_;rintro i w2 ⟨rfl,h2,N⟩;have H2:=gv (m.o.step (show Sc B n z f d A C D w2 Q from h2) N (by omega));clear h2 N al m;go_wp2_with fail;refine(oq _).mono ?_;rintro i w' ⟨rfl,rfl⟩;have a9:=H2.o.vb;have bb:Hid (w'.cell? ⟨w.heap.size+1,5,none⟩=some F):=by unfold Hid;rw[cb a9];rfl
    have HN:=gv (GA H2.o.drew.sc);obtain⟨ka,kc,c4⟩:=i_ H2.o.ownk;clear a9;go_wp2_with fail;refine p7 (nj 7 (w.heap.size+1) 5 F) (by kernel_rfl) ?_;intro a;have b:nj 7 (w.heap.size+1) 5 F (Array.replicate 8 false) w'.drew:=λ_=>bb.o;refine ti 0 ?_ a b ?_;clear a b;intro a b;(try simp only[gB])
    refine tk 1 ?_ a ?_ b ?_;rotate_left;·intro cr hW;obtain⟨bd,bf,hL,bi⟩:=hW;have cs:=bi (by cases h9:bd.getD 7 false with | false=>rfl | true=>exact absurd (bf.came 2 7 (by kernel_rfl) h9) (by rw[zU hL];decide));go_simp;try(with_reducible rfl)
    clear a b;intro a b;(try simp only[gB])
    refine ti 2 ?_ a b ?_;clear a b;intro a b;(try simp only[gB])
    cases a8:ke Q with
    |none =>
     rw[a8]at HN u;have a7:Hid (v=none):=by unfold Hid;rw[<-u.o];rfl
     clear a8 u;refine on 3 a λh c=>?_;go_simp;refine HN.o.mono ?_;rintro i w3 ⟨rfl,k3⟩;exact⟨rfl,kg.none_ (by rw[a7.o];rfl) (H2.o.drew.only.trans k3)⟩
    |some j =>
     obtain⟨y,q2⟩:=j;rw[a8]at HN u;have c7:=kw Q 0 0 y q2 a8;clear a8;refine on 3 a λh c=>?_;go_simp;refine HN.o.mono ?_;rintro i w3 ⟨ba,rfl,rfl,h3,k3⟩;have H3:=gv (H2.o.drew.step h3 k3 c7);have ao:Hid (w3.cell? ⟨w.heap.size+1,5,none⟩=some F):=by unfold Hid;rw[cb H3.o.vb];rfl
     clear h3 k3 HN;refine c.o _ _ (λ_=>ao.o) (λe g=>?_);clear a b c h;have a:=e;have b:=g;clear e g
     (try simp only[gB])
     refine on 4 a λh c=>?_;go_simp;have T:=gv (H3.o.alloc (.cells #[.string (gC y)] 9));have b2:Hid ((w3.alloc (.cells #[.string (gC y)] 9)).cell? ⟨w.heap.size+1,5,none⟩=some F):=by unfold Hid;rw[cb T.o.vb];rfl
     refine c.o _ _ (λ_=>b2.o) (λe g=>?_);clear a b c h;have a:=e;have b:=g;clear e g
     (try simp only[gB])
     refine on 5 a λh c=>?_;have dw:=s.o.fewk;have dc:=ae H3.o.vb;refine vX rfl (.tmp 14) (.tmp 17) 38 rfl (w.heap.size+2) 9 j0 _ 1 16 d_ ji dj dk dl rfl (by decide) F t.length (t.map λy=>.string (gC y)) (by rw[c4];rfl) T.o.ownk ⟨w3.heap.size,0,none⟩ 1 1 [.string (gC y)] rfl rfl ?hnews ?hone ?h63 ?hby ?hbs ?_
     case hnews=>intro di ck hu;rw[aa,cb (jd w3 _)];simpa using hu
     case hone=>intro ck hu;simp at hu;subst hu;rfl
     case h63=>unfold maxLen;omega
     case hby=>omega
     case hbs=>simp;omega
     intro v6 w6 bw bq cg;have H6:=gv (T.o.key bw bq cg (by omega));have bt:w6.heap[w.heap.size+1]?=some (.cells #[.int .i64 7,.int .i64 0,.int .i64 0,.string { data:=#[] },l,F,.slice none 0 0] 67 (0,0)):=by rw[bq.block _ (ae T.o.vb) (λi=>by have:=(T.o.ownk.lt _ i.symm).1;omega)];exact T.o.vb
     have bm:=rj bt;have cw:=ix 5 bt;obtain⟨b7,c6,da⟩:=i_ bw;subst da;clear bw bq cg bt T b2 ao H3 H2 bb;refine c.o _ _ (λ_=>bm) (λe g=>?_);clear a b c h;have a:=e;have b:=g;clear e g
     (try simp only[gB])
     refine on 6 a λh c=>?_;go_simp;refine c.o _ _ (λ_=>bm) (λe g=>?_);clear a b c h;have a:=e;have b:=g;clear e g
     (try simp only[gB])
     refine on 7 a λh c=>?_;go_simp;refine c.o _ _ (λh9=>by cases h9) (λe g=>?_);clear a b c h;have a:=e;have b:=g;clear e g
     (try simp only[gB])
     refine mI (by kernel_rfl) ?_ _;clear a b bm cw;have cd:=pV H6.o.vb;have P:=H6;clear H6;generalize w6.setCell ⟨w.heap.size+1,5,none⟩ (.slice b7 (t.length+1) c6)=w7 at *;have bb:Hid (w7.cell? ⟨w.heap.size+1,4,none⟩=some l):=cd;have dn:Hid (((12-k:Nat):Int)+1=((13-k:Nat):Int)):=by unfold Hid;omega
     have ds:12-k<=12:=by omega
     have HV:=gv (IH.o w7.drew q2 (HE.o.only s.o.sc.hb (e_ (dD s.o.sc.hb s.o.lt)) (P.o.drew.only)) P.o.drew.sc);obtain⟨dp,c1,c2⟩:=i_ P.o.own;clear cd;go_wp2_with fail;refine p7 (nj 9 (w.heap.size+1) 4 l) (by kernel_rfl) ?_;intro a;have b:nj 9 (w.heap.size+1) 4 l (Array.replicate 10 false) w7.drew:=λ_=>bb.o;refine ti 0 ?_ a b ?_;clear a b;intro a b;(try simp only[gB])
     refine tk 1 ?_ a ?_ b ?_;rotate_left;·intro cr hW;obtain⟨bd,bf,hL,bi⟩:=hW;have cs:=bi (by cases h9:bd.getD 9 false with | false=>rfl | true=>exact absurd (bf.came 2 9 (by kernel_rfl) h9) (by rw[zU hL];decide));go_simp;try(with_reducible rfl)
     clear a b;intro a b;(try simp only[gB])
     refine ti 2 ?_ a b ?_;clear a b;intro a b;(try simp only[gB])
     refine ti 3 ?_ a b ?_;clear a b;intro a b;(try simp only[gB])
     refine ti 4 ?_ a b ?_;clear a b;intro a b;(try simp only[gB])
     have b4:Hid (IntKind.i64.wrap (((12-k:Nat):Int)+1)=((13-k:Nat):Int)):=by unfold Hid;rw[bP];omega
     cases hv:gI k q2 with
     |none =>
      rw[hv]at HV u;have a7:Hid (v=none):=by unfold Hid;rw[<-u.o];rfl
      clear hv u;refine on 5 a λh c=>?_;go_simp;rw[b4.o];refine HV.o.mono ?_;rintro i R ⟨rfl,N⟩;exact⟨rfl,kg.none_ (by rw[a7.o];rfl) (P.o.drew.only.trans N)⟩
     |some j =>
      obtain⟨b6,q3⟩:=j;rw[hv]at HV u;have d1:=kY hv;have co:Hid (rO (t++[y]) (p++[b6]) (jh (gI k) O q3)=v):=by unfold Hid;rw[<-u.o];exact(GQ _ _ _ _ _).symm
      clear hv u;refine on 5 a λh c=>?_;go_simp;rw[b4.o];refine HV.o.mono ?_;rintro i R ⟨ba,rfl,bc,h2,N⟩;have H8:=gv (P.o.drew.step h2 N (by omega));have b1:Hid (R.cell? ⟨w.heap.size+1,4,none⟩=some l):=by unfold Hid;rw[cb H8.o.vb];rfl
      have b3:=gv bc;have b9:=bc.cells;obtain⟨W,I,J,L,X,Y,Z,rfl⟩:∃W I J L X Y Z,ba=.agg #[W,I,J,L,X,Y,Z]:=gR.agg bc;have d2:=h2.lt;clear bc h2 N HV;refine c.o _ _ (λ_=>b1.o) (λe g=>?_);clear a b c h;have a:=e;have b:=g;clear e g
      (try simp only[gB])
      refine on 6 a λh c=>?_;go_simp;have U:=gv (H8.o.alloc (.cells #[W,I,J,L,X,Y,Z] 67));have ao:Hid ((R.alloc (.cells #[W,I,J,L,X,Y,Z] 67)).cell? ⟨w.heap.size+1,4,none⟩=some l):=by unfold Hid;rw[cb U.o.vb];rfl
      refine c.o _ _ (λ_=>ao.o) (λe g=>?_);clear a b c h;have a:=e;have b:=g;clear e g
      (try simp only[gB])
      refine on 7 a λh c=>?_;have dv:=s.o.few;have d3:=H8.o.only.size;have dc:=ae H8.o.vb;refine vX rfl (.tmp 21) (.tmp 26) 29 rfl (w.heap.size+2) 67 i0 _ 7 112 cu hi dd de dg rfl (by decide) l G.length (G.flatMap cellsOf) (by rw[c2];rfl) U.o.own ⟨R.heap.size,0,none⟩ 1 1 [W,I,J,L,X,Y,Z] rfl rfl ?hnews ?hone ?h63 ?hby ?hbs ?_
      case hnews=>intro di ck hu;rw[aa,cb (jd R _)];simpa using hu
      case hone=>exact b9.2
      case h63=>unfold maxLen;omega
      case hby=>omega
      case hbs=>simp;omega
      intro v9 w9 bx br ch;have b5:Hid (gR (λac=>w7.drew.heap.size<=ac) k (R.alloc (.cells #[W,I,J,L,X,Y,Z] 67)) (.agg #[W,I,J,L,X,Y,Z]) b6):=gR.keep k b3.o (λac _ hg=>((aj R.heap.size R).alloc (af _) _).block ac hg);have b0:=gv (U.o.item (S:=w7.heap.size) (λac hg=>(P.o.own.lt ac hg).2) (λac hg=>(P.o.ownk.lt ac hg).2) (by have:=ae P.o.vb;omega) b5.o bx br ch (by omega));have bv:w9.heap[w.heap.size+1]?=some (.cells #[.int .i64 7,.int .i64 0,.int .i64 0,.string { data:=#[] },l,.slice b7 (t.length+1) c6,.slice none 0 0] 67 (0,0)):=by rw[br.block _ (by have:=ae U.o.vb;exact this) (λi=>by have:=(U.o.own.lt _ i.symm).1;omega)];exact U.o.vb
      have bn:=pV bv;have c0:=ix 4 bv;obtain⟨dr,c9,db⟩:=i_ bx;subst db;have cl:=gv b0.o.sc.posS;clear bx br ch bv U b5 b3 ao b1 H8 b9;refine c.o _ _ (λ_=>bn) (λe g=>?_);clear a b c h;have a:=e;have b:=g;clear e g
      (try simp only[gB])
      refine on 8 a λh c=>?_;go_simp;refine c.o _ _ (λ_=>bn) (λe g=>?_);clear a b c h;have a:=e;have b:=g;clear e g
      (try simp only[gB])
      refine on 9 a λh c=>?_;go_simp;refine c.o _ _ (λh9=>by cases h9) (λe g=>?_);clear a b c h;have a:=e;have b:=g;clear e g
      (try simp only[gB])
      refine mI (by kernel_rfl) ?_ _;clear a b bn c0;go_wp2;go_roundw
      case rel=>exact⟨O,q3,_,_,_,_,_,b0,by omega,co⟩
      case measure=>rw[cm.o,cl.o];omega
end
section
variable{B d:Nat}{w f:World}
theorem C6(a:UInt8):∀g:List UInt8,Lib.indexByte g a=if g.dropWhile (λb=>b != a)=[]then -1 else((g.takeWhile λb=>b != a).length:Int)
 | []=>rfl
 |b::h=>by
  rw[Lib.indexByte,cE,eg,C6 a h];by_cases c:b=a;·subst c;simp
  ·have i:(b==a)=false:=by simp[c]
   have j:(b != a)=true:=by simp[c]
   rw[i,j];simp only[if_true];by_cases e:h.dropWhile (λb=>b != a)=[];·simp[e]
   ·rw[au e,au e];simp only[ag];rw[au (by simp),au (by simp)];omega
theorem yt(a:List UInt8):Lib.cut a [46]=match a.dropWhile (λb=>b != 46)with | []=>(a,[],false) | _::e=>(a.takeWhile (λb=>b != 46),e,true):=by
 have i:a.takeWhile (λb=>b != 46)++a.dropWhile (λb=>b != 46)=a:=List.takeWhile_append_dropWhile;cases h:a.dropWhile (λb=>b != 46)with
 |nil =>
  have g:Lib.index a [46] = -1:=by rw[Lib.index_one,C6,aA h]
  unfold Lib.cut;rw[g,au (by omega)]
 |cons m e =>
  have g:Lib.index a [46]=((a.takeWhile λb=>b != 46).length:Int):=by rw[Lib.index_one,C6,au (by rw[h];simp)]
  unfold Lib.cut;rw[g,aA (by omega),Int.toNat_natCast];rw[h]at i;have l:∀c:List UInt8,c++(m::e)=a->a.take c.length=c/\a.drop (c.length+1)=e:=by rintro c rfl;simp
  obtain⟨j,k⟩:=l _ i;rw[j];simp only[ag,aw,b_];rw[k]
theorem F7(b a:UInt8):(b != a)=(b.toNat != a.toNat):=by rw[aZ];simp[UInt8.toNat_inj]
theorem F3(a:UInt8):∀c:List UInt8,(c.takeWhile λb=>b != a).map UInt8.toNat=(c.map UInt8.toNat).takeWhile λb=>b != a.toNat
 | []=>rfl
 |b::e=>by
  rw[eg,bJ,eg,<-F7];cases g:(b != a);·rfl
  ·simp only[if_true,bJ];rw[F3 a e]
theorem F0(a:UInt8):∀c:List UInt8,(c.dropWhile λb=>b != a).map UInt8.toNat=(c.map UInt8.toNat).dropWhile λb=>b != a.toNat
 | []=>rfl
 |b::e=>by
  rw[cE,bJ,cE,<-F7];cases g:(b != a);·rfl
  ·simp only[if_true];rw[F0 a e]
theorem IR(b a:UInt8):(b==a)=(b.toNat==a.toNat):=by rw[aZ];simp[UInt8.toNat_inj]
theorem FZ(a:UInt8):∀c:List UInt8,(c.dropWhile λb=>b==a).map UInt8.toNat=(c.map UInt8.toNat).dropWhile λb=>b==a.toNat
 | []=>rfl
 |b::e=>by
  rw[cE,bJ,cE,<-IR];cases g:(b==a);·rfl
  ·simp only[if_true];rw[FZ a e]
theorem uC(l:List UInt8):bl ⟨l.toArray⟩=l.map UInt8.toNat:=by simp[bl]
theorem LC(a:ByteArray):bl ⟨(Lib.trimRightB a.data.toList 48).toArray⟩=jk (bl a):=by rw[uC];unfold Lib.trimRightB jk bl;rw[List.map_reverse,FZ,List.map_reverse];rfl
theorem xI(a:ByteArray):a.size=(bl a).length:=(nM a).symm
theorem zO(a b:ByteArray):bl (a++b)=bl a++bl b:=by unfold bl;rw[ByteArray.data_append];simp
end
end Go.Proofs.YtgkljcmjnphpeaaGreatDoor
