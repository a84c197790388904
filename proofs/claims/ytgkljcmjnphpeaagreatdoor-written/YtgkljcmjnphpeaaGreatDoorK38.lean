import Derived.Test.YtgkljcmjnphpeaaGreatDoorK37
set_option linter.unusedVariables false
set_option linter.unusedSimpArgs false
set_option maxHeartbeats 4000000
set_option maxRecDepth 100000
namespace Go.Proofs.YtgkljcmjnphpeaaGreatDoor
open Go.RowKit
section
variable{w r:World}{B p:Nat}{t s:Value}{m q:List Nat}
theorem FK:(Tryz.prog.info? 3).map (λa=>(a.zero,a.size,a.bytes))=some (some (.int .i64 0),1,8):=by kernel_rfl
theorem xw{w:World}{d:Nat}:∀(b:Nat) (c:Value),[Value.int .i64 (d:Int)][b]?=some c->(w.alloc (.cells #[.int .i64 (d:Nat)] 3)).cell? ((⟨w.heap.size,0,none⟩:Addr).add b)=some c:=by
 intro b c a;match b,a with
 |0,a=>cases a;rw[aa,cb (jd w _)];rfl
 |b+1,a=>simp at a
def wohead(n:Int):List Nat:=iE n++[32,48,32,111,98,106,10]
theorem Ew{a1:Nat}{S:List Nat->Prop}{a3:Nat}{C:Int}{d v x:Int}{y:ByteArray}{h j f:Option Addr}{n i u k l g:Nat}(he:lD a1 w)(hR:∀e,S e->e.length<=a3)(a8:a1<=B)(G:iR B p w t s m q)(ac : -9223372036854775808<=C)(ad:C<=9223372036854775807)(cd:q.length<=1000000)(b8:m.length+100+a3<=500000000)
  (a9:∀(b:World) (o1 P:Value),iR B p b o1 P (m++wohead C) (q++[m.length])->Below B w b->Calls Tryz.prog (bif d==8 then 131 else 132) #[.pointer (some ⟨p,0,none⟩),.agg #[.int .i64 d,.int .i64 v,.int .i64 x,.string y,.slice h n i,.slice j u k,.slice f l g]] b λa r=>∃e,S e/\lV B p b P (m++wohead C) (q++[m.length]) e a r) :
  Calls Tryz.prog 93 #[.pointer (some ⟨p,0,none⟩),.int .i64 C,.agg #[.int .i64 d,.int .i64 v,.int .i64 x,.string y,.slice h n i,.slice j u k,.slice f l g]] w λa r=>a=.returned (.tuple #[])/\∃e o1 P,S e/\iR B p r o1 P (m++(wohead C++(e++[10,101,110,100,111,98,106,10]))) (q++[m.length])/\Below B w r:=by
 obtain⟨i0,hi,b0,b5,b6⟩:=bu FK;obtain⟨D,E,bx⟩:=i_ G.po;subst bx;obtain⟨va,vc,bv⟩:=i_ G.oo;subst bv;have z:=G.alloc (.cells #[.int .i64 d,.int .i64 v,.int .i64 x,.string y,.slice h n i,.slice j u k,.slice f l g] 67);have b1:Below B w (w.alloc (.cells #[.int .i64 d,.int .i64 v,.int .i64 x,.string y,.slice h n i,.slice j u k,.slice f l g] 67)):=(aj _ _).alloc G.bw _;have ba:(w.alloc (.cells #[.int .i64 d,.int .i64 v,.int .i64 x,.string y,.slice h n i,.slice j u k,.slice f l g] 67)).heap[w.heap.size]?=some (.cells #[.int .i64 d,.int .i64 v,.int .i64 x,.string y,.slice h n i,.slice j u k,.slice f l g] 67 (0,0)):=jd _ _;have a2:Hid (p<w.heap.size):=G.lt;go_enter Tryz.func93,Tryz.ntmps93;go_wp2_with fail;generalize b7:w.alloc (.cells #[.int .i64 d,.int .i64 v,.int .i64 x,.string y,.slice h n i,.slice j u k,.slice f l g] 67)=I at *;have c0:=mb z.blk;have c1:=oB z.blk;have H1:=gv z;have bn:B<=I.heap.size:=z.bw;have bd:Hid (∀b,(I.drew.alloc (.cells #[.int .i64 (m.length:Int)] 3)).grownBy b (Value.slice D q.length E).ownBlock->b.heap[p]?=some (.cells #[.slice va m.length vc,.slice D q.length E] 122 (0,0))):=λb c=>by
  have H:=z.drew.alloc (.cells #[.int .i64 (m.length:Int)] 3);rw[c.block p H.lt (λa=>by obtain⟨_,a5,bm,L⟩:=nR H.po p a.symm;rw[H.blk]at L;simp at L)]
  exact H.blk
 have bf:Hid (∀b,(I.drew.alloc (.cells #[.int .i64 (m.length:Int)] 3)).grownBy b (Value.slice D q.length E).ownBlock->b.heap[w.heap.size]?=some (.cells #[.int .i64 d,.int .i64 v,.int .i64 x,.string y,.slice h n i,.slice j u k,.slice f l g] 67 (0,0))):=λb c=>by
  have H:=z.drew.alloc (.cells #[.int .i64 (m.length:Int)] 3);have al:(I.drew.alloc (.cells #[.int .i64 (m.length:Int)] 3)).heap[w.heap.size]?=some (.cells #[.int .i64 d,.int .i64 v,.int .i64 x,.string y,.slice h n i,.slice j u k,.slice f l g] 67 (0,0)):=l9 _ ba;rw[c.block _ (ae al) (λa=>by obtain⟨_,a5,bm,L⟩:=nR H.po _ a.symm;rw[al]at L;simp at L)]
  exact al
 have bi:(I.alloc (.cells #[.int .i64 (m.length:Int)] 3)).cell? ⟨p,1,none⟩=some (.slice D q.length E):=oB (z.alloc _).blk;clear z G;go_region_law (refine Ab rfl (.tmp 10) (.tmp 16) 52 rfl B 3 i0 (.int .i64 0) 1 8 dq hi b0 b5 b6 rfl (by decide) (.slice D q.length E) q.length _ rfl (H1.o.drew.alloc _).po ⟨I.heap.size,0,none⟩ 1 1 [.int .i64 (m.length:Int)] rfl rfl ?hnews ?hone ?h63 ?hby ?hb ?_;(case hnews=>exact xw);(case hone=>intro ck hu;simp at hu;subst hu;rfl);(case h63=>unfold maxLen;omega);(case hby=>omega);(case hb=>simp;omega);intro v6 A a0 O _;have R:=gv ((H1.o.drew.alloc (.cells #[.int .i64 (m.length:Int)] 3)).place a0 O);have Z:A.heap[p]?=some (.cells #[.slice va m.length vc,.slice D q.length E] 122 (0,0)):=bd.o A O;have HX:=gv (bf.o A O);have c6:A.cell? ⟨p,1,none⟩=some (.slice D q.length E):=(cb Z);have f6:A.frozen? ⟨p,1,none⟩=false:=nP Z;obtain⟨T,W,bz⟩:=i_ a0;subst bz;clear a0 O Z);all_goals (
  have ao:(A.setCell ⟨p,1,none⟩ (.slice T (q.length+1) W)).heap[w.heap.size]?=some (.cells #[.int .i64 d,.int .i64 v,.int .i64 x,.string y,.slice h n i,.slice j u k,.slice f l g] 67 (0,0)):=by rw[jL _ (by have:=a2.o;omega)];exact HX.o
  have K:=R.o.1;have U:Below B w (A.setCell ⟨p,1,none⟩ (.slice T (q.length+1) W)):=((b1.drew.alloc (by exact bn) _).trans R.o.2);clear R HX c6 f6;go_wp2_with fail;generalize bq:A.setCell ⟨p,1,none⟩ (.slice T (q.length+1) W)=w2 at *;refine(Af (he.low (U.mono a8)) (aD a8 K.bw) C ac ad).mono ?_;rintro a w3 ⟨a4,rfl,Y,J⟩;have cg:a4.size<=20:=by rw[<-nM,Y];exact jg ac ad
  have F:=gv (vS (K.below J) a4 { data:=#[32,48,32,111,98,106,10] } (by show _+(_+7)<=_;omega));rw[Y]at F;have bb:w3.heap[w.heap.size]?=_:=(J.block _ (ae ao)).trans ao;have B3:=gv (U.trans (J.mono K.bw));have br:B<=w3.heap.size:=(K.below J).bw;clear Y J K U ao bq ba c0 c1 bi;go_wp2_with fail;refine F.o.mono ?_;rintro a w4 ⟨rfl,o4,M,k4⟩;have bc:w4.heap[w.heap.size]?=_:=k4.block _ _ (by simp;have:=a2.o;omega) bb (Or.inr λa5 fz a=>by cases a);have V:Below B w w4:=B3.o.trans (gD.below k4.togD br (λa7 c=>by simp at c;subst c;exact M.hb));have Q:=gv (a9 w4 o4 _ M V);have B4:=gv V;have bs:=M.bw;obtain⟨d0,d1,d2,d3,d4,d5,d6⟩:=oX bc;clear bb bc k4 M V F a9;cases hk:(d==8);all_goals
   rw[hk]at Q;go_wp2_with fail;refine Q.o.mono ?_;rintro a w5 ⟨e,hm,rfl,o5,N,k5⟩;have b9:=hR e hm;have HM:=gv hm;have ch:=jg ac ad;have F:=gv (ma N { data:=#[10,101,110,100,111,98,106,10] } (by show _+8<=_;unfold wohead;simp only[ab,ag,aw];omega));have B5:=gv (B4.o.trans (gD.below k5.togD bs (λa7 c=>by simp at c;subst c;exact N.hb)));have bt:=N.bw;clear N k5 Q d0 d1 d2 d3 d4 d5 d6;go_wp2_with fail;refine F.o.mono ?_;rintro a w7 ⟨rfl,o7,X,k7⟩;have H7:=gv X;have B7:=gv (B5.o.trans (gD.below k7.togD bt (λa7 c=>by simp at c;subst c;exact X.hb)));clear X k7 F;go_wp2
   go_end0
   have h9:=H7.o;rw[ak,ak]at h9;exact⟨rfl,e,o7,_,HM.o,h9,B7.o⟩)
theorem nx.outk{h o N:Value}{e L M:List Nat}(A:nx w h e)(g:iR B p w t s m q)(k:h_ B p w r)(J:iR B p r o N L M)(I:0<e.length->∀d,h.ownBlock=some d->t.ownBlock≠some d):nx r h e/\(0<e.length->∀d,h.ownBlock=some d->o.ownBlock≠some d):=by
 obtain⟨⟨v,z,rfl,G,D⟩,E⟩:=A;have y:∀a,a<e.length->∃b c,v=some ⟨b,c,none⟩/\b<r.heap.size/\r.cell? ⟨b,c+a,none⟩=some (.int .u8 (nth e a:Nat))/\o.ownBlock≠some b:=λa l=>by
  obtain⟨b,c,rfl,i,h3⟩:=G a l;have F:b≠p:=by
   rintro rfl;rw[cb g.blk]at h3;obtain⟨P,R,e1⟩:=i_ g.oo;obtain⟨Q,S,e2⟩:=i_ g.po;rw[e1,e2]at h3;generalize c+a=O at h3;match O,h3 with
   |0,h3=>simp at h3
   |1,h3=>simp at h3
   |n+2,h3=>simp at h3
  obtain⟨u,x⟩:∃u,w.heap[b]?=some u:=⟨_,aW i⟩;have j:=k.prot g.lt b u x F (λK=>I (by omega) b rfl ((s7.of g.blk).1 K));refine⟨b,c,rfl,ae j.1,?_,λf=>j.2 ((s7.of J.blk).2 f)⟩;rw[<-h3];exact World.cell?_of_block (w:=w) (j.1.trans x.symm)
 refine⟨⟨⟨v,z,rfl,λa l=>?_,D⟩,E⟩,λC d H=>?_⟩
 ·obtain⟨b,c,f,i,h3,_⟩:=y a l;exact⟨b,c,f,i,h3⟩
 ·obtain⟨b,c,f,_,_,h3⟩:=y 0 C;subst f;cases H;exact h3
theorem nx.news{f:Addr}{i k:Nat}{c:List Nat}(l:nx w (.slice (some f) i k) c):i=c.length/\(∀(a:Nat) (e:Value),(l_ c)[a]?=some e->w.cell? (f.add a)=some e):=by
 obtain⟨⟨o,u,d,n,v⟩,y⟩:=l;cases d;refine⟨rfl,λa e h=>?_⟩;have g:a<c.length:=by have:=(aX.1 h).1;simpa[l_]using this
 obtain⟨b,j,d,x,h3⟩:=n a g;cases d;have e2:(⟨b,j,none⟩:Addr).add a=⟨b,j+a,none⟩:=by unfold Addr.add;split<;>simp_all
 rw[e2,h3,<-h];simp[l_,nth,ai g]
theorem LS{d Ev u:Nat}{EE:Nat->List Nat->List Nat->Prop}(hE:rC EE u)(db:u<=1000000)(T:lD Ev w)(bc:Ev<=B)(ad:iR B p w t s m q){cm:Nat->Prop}{a:gz (VT (d+2))}{b9:Value}{fs:List nU}(hv:gR cm (d+3) w b9 a)(V:vZ d a fs)(hM:2^fs.length*(a.text.length+36)<=2*u)(al:a.text.length<=u)(dg:m.length+ii (k:=d+3) a+10000+2*u<=500000000) :
  Calls Tryz.prog 131 #[.pointer (some ⟨p,0,none⟩),b9] w λe r=>∃b8,(∃c,mL EE a.filters a.text c/\c.length+36<=2^fs.length*(a.text.length+36)/\(∀cd∈c,cd<256)/\b8=wstream d a c)/\lV B p w s m q b8 e r:=by
 obtain⟨i1,gi,cp,cr,cs⟩:=bu Tryz.infoByte;have HV:=gv hv;obtain⟨iv,kv,fv,vs,rfl,b4,a3,c9,b3,a2⟩:=hv;rw[b4]at a3;obtain⟨y,z,rfl⟩:=i_ a3.1;obtain⟨A,C,rfl⟩:=i_ b3.1;obtain⟨G,H,rfl⟩:=i_ a2.1;obtain⟨va,vc,c5⟩:=i_ ad.oo;subst c5;have bd:=V.fils a2;have f:=gv V;have ch:=gv (And.intro hM al);have Z:=gv ad;have cg:=gv T;have b6:(w.alloc (.cells #[.int .i64 (a.kind:Int),.int .i64 a.n,.int .i64 (a.places:Int),.string (gC a.text),.slice y a.items.length z,.slice A a.keys.length C,.slice G a.filters.length H] 67)).heap[w.heap.size]?=some (.cells #[.int .i64 (a.kind:Int),.int .i64 a.n,.int .i64 (a.places:Int),.string (gC a.text),.slice y a.items.length z,.slice A a.keys.length C,.slice G a.filters.length H] 67 (0,0)):=jd _ _;have b0:Below w.heap.size w (w.alloc (.cells #[.int .i64 (a.kind:Int),.int .i64 a.n,.int .i64 (a.places:Int),.string (gC a.text),.slice y a.items.length z,.slice A a.keys.length C,.slice G a.filters.length H] 67)):=(aj _ _).alloc (af _) _;have ba:=gv (J2 hE (w:=w.alloc (.cells #[.int .i64 (a.kind:Int),.int .i64 a.n,.int .i64 (a.places:Int),.string (gC a.text),.slice y a.items.length z,.slice A a.keys.length C,.slice G a.filters.length H] 67)) V.byt (by omega) (kZ.mono (bd.below b0) (by simp)) V.few hM al (kd:=a.kind) (nn:=a.n) (pp:=a.places) (ia:=y) (ka:=A) (ni:=a.items.length) (ic:=z) (nk:=a.keys.length) (kc:=C));unfold nV;clear a3 b3 a2 c9 bd b4 ad hE hM al T;go_enter Tryz.func131,Tryz.ntmps131;go_wp2_with fail;refine ba.o.mono ?_;rintro e w1 ⟨dv,c,rfl,L,bv,R,bx,bq⟩;have b7:=(R.block w.heap.size (by simp)).trans b6;obtain⟨d0,d1,d2,d3,d4,d5,d6⟩:=oX b7;have ac:Below w.heap.size w w1:=b0.trans (R.mono (by simp));have I:=(Z.o.alloc (.cells #[.int .i64 (a.kind:Int),.int .i64 a.n,.int .i64 (a.places:Int),.string (gC a.text),.slice y a.items.length z,.slice A a.keys.length C,.slice G a.filters.length H] 67)).below R;have K1:=gv (h_.of_below (B:=B) (bf:=p) (b:=0) ac);have dd:c.length<=2*u:=by have:=ch.o.1;omega
 have bb:=gv (LV (w:=w1) (HV.o.keep _ (λl _ hg=>ac.block l hg)) f.o.fil (by have:=f.o.few;omega) f.o.il (by rw[f.o.same];exact f.o.il) c.length);have bt:0<c.length->∀l,dv.ownBlock=some l->(Value.slice va m.length vc).ownBlock≠some l:=λ_ l hg T=>by have I:=bv l hg;have D:=(Z.o.oo.lt l T).2;simp at I;omega
 obtain⟨da,dc,rfl,br⟩:=L.sl;have a8:=gv br;have a9:=gv bt;have a7:=gv L;have P:=gv (And.intro bx bq);have H1:=gv I;clear b0 R b6 b7 I br L bv bx bq bt ba ac;go_wp2_with fail;refine bb.o.mono ?_;rintro e w2 ⟨v',rfl,bs,S⟩;have D:=H1.o.below S;have K2:=gv (K1.o.trans (h_.of_below (b:=0) S));have a6:=gv (a7.o.below S);have di:=f.o.wlen c.length;have HD:=gv (Et (BA (d+2)) (cg.o.outk bc Z.o K2.o) bc D bs (f.o.dict c.length (by omega)).1 (f.o.dict c.length (by omega)).2 (by omega));have H2:=gv D;clear D S bs bb H1 K1 a7 d0 d1 d2 d3 d4 d5 d6;go_wp2_with fail;refine HD.o.mono ?_;intro e w3 bz;change lV B p w2 s m q (iu (k:=d+3) (sdict d a c.length)) e w3 at bz;obtain⟨rfl,dj,h3,k3⟩:=bz;obtain⟨N,Q⟩:=a6.o.outk H2.o k3 h3 a9.o;have c2:=mA (f.o.dict c.length (by omega)).1;have de:(m++iu (k:=d+3) (sdict d a c.length)).length<=m.length+ii (k:=d+3) a+8000:=by rw[ab];omega
 have g:=gv (ma h3 { data:=#[10,115,116,114,101,97,109,10] } (by show _+8<=_;omega));have K3:=gv (K2.o.trans k3);have N:=gv N;have Q:=gv Q;have H3:=gv h3;clear h3 k3 HD a6 K2 H2 c2 a9;generalize bi:m++iu (k:=d+3) (sdict d a c.length)=O3 at *;go_wp2_with fail;refine g.o.mono ?_;rintro e w4 ⟨rfl,dk,J,k4⟩;have c3:(O3++bl { data:=#[10,115,116,114,101,97,109,10] }).length=O3.length+8:=by rw[ab];rfl
 obtain⟨E,cl⟩:=N.o.outk H3.o k4 J Q.o;have K4:=gv (K3.o.trans k4);have E:=gv E;obtain⟨W,X,c7⟩:=i_ J.oo;subst c7;have x:=J.blk;have c0:=mb x;have f0:=ix 0 x;have j:=gv J;clear J k4 g K3 N Q H3 cl;generalize bm:O3++bl { data:=#[10,115,116,114,101,97,109,10] }=i at *;have cw:=j.o.bw;have c4:i.length<=400000000+m.length+ii (k:=d+3) a:=by omega
 have O:Hid (i.length+2*u+1000<=500000000):=by unfold Hid;omega
 clear c3 c4;cases da with
 |none =>
  have a0:c.length=0:=by obtain⟨_,I,_,D⟩:=a8.o;have:=D rfl;omega
  have bn:dc=0:=a8.o.2.2.2 rfl;rw[a0,bn];have c1:c=[]:=cU.1 a0;have h:=j.o.set (h_.refl _ _ _) x (λl e=>Or.inl e) j.o.oo;clear a0 bn;have h:iR B p (w4.setCell ⟨p,0,none⟩ (.slice W i.length X)) (.slice W i.length X) s (i++c) q/\h_ B p w4 (w4.setCell ⟨p,0,none⟩ (.slice W i.length X)):=by rw[c1,ct];exact h
  go_wp2_with (at_builtin;refine wpList_append_own_none rfl (.tmp 20) (.tmp 21) 23 rfl B 5 i1 1 aq gi _ i.length _ rfl j.o.oo rfl ?_);have g:=gv (ma h.1 { data:=#[10,101,110,100,115,116,114,101,97,109] } (by have:=O.o;show _+10<=_;rw[ab];omega));rw[World.size_setCell]at g;have F:=gv (K4.o.trans h.2);clear x h;go_wp2_with fail;refine g.o.mono ?_;rintro e w7 ⟨rfl,a4,K,M⟩;have Y:=gv K;have K7:=gv (F.o.trans M);clear K M g F;go_wp2
  go_end0
  refine⟨_,⟨c,by rw[f.o.fil];exact P.o.1,P.o.2,E.o.byt,rfl⟩,rfl,a4,?_,K7.o⟩;have v:=Y.o;rw[<-bm,<-bi]at v;unfold wstream;simp only[ak]at v ⊢;exact v
 |some co =>
  obtain⟨_,U⟩:=E.o.news;have ck:=gv U;clear U;go_wp2_with (at_builtin;refine pZ _ rfl (.tmp 20) (.tmp 21) 23 rfl B 5 i1 (.int .u8 0) 1 1 aq gi cp cr cs rfl (by decide) _ i.length _ rfl j.o.oo co c.length dc (l_ c) rfl (by simp[l_]) ?hnews ?hone ?h63 ?hby ?hbs ?_)
  case hnews=>exact ck.o
  case hone=>intro dl hu;obtain⟨cd,_,rfl⟩:=cv.1 hu;rfl
  case h63=>have:=O.o;unfold maxLen;omega
  case hby=>have:=O.o;omega
  case hbs=>exact cw
  intro v6 w6 a5 a1 b5;have ao:w6.heap[p]?=some (.cells #[.slice W i.length X,s] 122 (0,0)):=by rw[a1.block p (ae x) (λe=>j.o.ne p e.symm rfl)];exact x
  have h:=j.o.grow (h_.refl _ _ _) rfl j.o.oo a1 b5 a5 rfl;obtain⟨dn,dp,c8⟩:=i_ a5;subst c8;have c6:=mb ao;have f6:=ix 0 ao;have g:=gv (ma h.1 { data:=#[10,101,110,100,115,116,114,101,97,109] } (by have:=O.o;show _+10<=_;rw[ab];omega));rw[World.size_setCell]at g;have F:=gv (K4.o.trans h.2);clear a5 a1 b5 ao x h;go_wp2_with fail;refine g.o.mono ?_;rintro e w7 ⟨rfl,a4,K,M⟩;have Y:=gv K;have K7:=gv (F.o.trans M);clear K M g F;go_wp2
  go_end0
  refine⟨_,⟨c,by rw[f.o.fil];exact P.o.1,P.o.2,E.o.byt,rfl⟩,rfl,a4,?_,K7.o⟩;have v:=Y.o;rw[<-bm,<-bi]at v;unfold wstream;simp only[ak]at v ⊢;exact v
end
def jJ(a:Nat)(b:List Nat):List Nat:=wohead (a:Int)++(b++[10,101,110,100,111,98,106,10])
def gK:List (List Nat)->Nat->List Nat
 | [],_=>[]
 |b::a,n=>jJ n b++gK a (n+1)
def gV:List (List Nat)->Nat->Nat->List Nat
 | [],_,_=>[]
 |c::b,a,n=>a::gV b (a+(jJ n c).length) (n+1)
theorem pQ(c:List Nat):∀(b:List (List Nat)) (a:Nat),gK (b++[c]) a=gK b a++jJ (a+b.length) c
 | [],a=>by simp[gK]
 |d::b,a=>by show jJ a d++gK (b++[c]) (a+1)=(jJ a d++gK b (a+1))++jJ (a+(b.length+1)) c;rw[pQ c b (a+1),ak,cL a 1,Nat.add_comm 1]
theorem oW(e:List Nat):∀(c:List (List Nat)) (b a:Nat),gV (c++[e]) b a=gV c b a++[b+(gK c a).length]
 | [],b,a=>by simp[gV,gK]
 |d::c,b,a=>by show b::gV (c++[e]) (b+(jJ a d).length) (a+1)=(b::gV c (b+(jJ a d).length) (a+1))++[b+(jJ a d++gK c (a+1)).length];rw[oW e c,ab,cL];rfl
theorem kf:∀(a:List (List Nat)) (c b:Nat),(gV a c b).length=a.length
 | [],_,_=>rfl
 |d::a,c,b=>by show(gV a _ _).length+1=a.length+1;rw[kf a]
theorem oy:∀(b:List (List Nat)) (d a:Nat),∀c∈gV b d a,c<=d+(gK b a).length
 | [],_,_,c,e=>by cases e
 |g::b,d,a,c,e=>by
  have f:c∈d::gV b (d+(jJ a g).length) (a+1):=e;show c<=d+(jJ a g++gK b (a+1)).length;rw[ab];rcases bT.1 f with rfl | f;·omega
  ·have:=oy b _ _ c f;omega
def iq:List Nat:=[37,80,68,70,45,49,46,52,10]
def jf(ms:List (List Nat))(a:Int):List Nat:=
 iq++gK ms 1++(j7 (gV ms 9 1)++(wtrail ((ms.length:Int)+1) a++([115,116,97,114,116,120,114,101,102,10]++(iE (((iq++gK ms 1).length:Nat):Int)++[10,37,37,69,79,70,10]))))
def BO(e:Nat->List Nat->List Nat->Prop)(a:Nat)(b:VT (a+3))(d:List Nat):Prop:=
 (gz.kind (α:=VT (a+2)) b=8/\∃c,mL e (gz.filters (α:=VT (a+2)) b) (gz.text (α:=VT (a+2)) b) c/\c.length+36<=2^(gz.filters (α:=VT (a+2)) b).length*((gz.text (α:=VT (a+2)) b).length+36)/\(∀d∈c,d<256)/\d=wstream a b c)\/(gz.kind (α:=VT (a+2)) b≠8/\d=iu (k:=a+3) b)
structure lR(EE:Nat->List Nat->List Nat->Prop)(j:Nat)(Ys:List (VT (j+3)))(ms:List (List Nat)):Prop where
 len:ms.length<=Ys.length
 each:∀(i:Nat) (x:List Nat) (y:VT (j+3)),ms[i]?=some x->Ys[i]?=some y->BO EE j y x
theorem lR.snoc{f:Nat->List Nat->List Nat->Prop}{d:Nat}{g:List (VT (d+3))}{c:List (List Nat)}{j:List Nat}{k:VT (d+3)}(n:lR f d g c)(i:g[c.length]?=some k)(p:BO f d k j):lR f d g (c++[j]):=by
 refine⟨?_,λe l b a h=>?_⟩
 ·have:=(aX.1 i).1;rw[ab,eD];omega
 ·by_cases m:e<c.length
  ·rw[aI m]at a;exact n.each e l b a h
  ·rw[ar (by omega)]at a;have o:e-c.length=0:=by have:=(aX.1 a).1;simp at this;omega
   rw[o]at a;cases a;have:e=c.length:=by omega
   subst this;rw[i]at h;cases h;exact p
structure qy(M j:Nat)(Y:VT (j+3)):Prop where
 str:gz.kind (α:=VT (j+2)) Y=8->∃fs,vZ j Y fs/\2^fs.length*((gz.text (α:=VT (j+2)) Y).length+36)<=2*M/\(gz.text (α:=VT (j+2)) Y).length<=M
 val:gz.kind (α:=VT (j+2)) Y≠8->sI (k:=j+3) Y
 len:ii (k:=j+3) Y<=100000000
theorem qy.body{f a:Nat}{b:VT (a+3)}{i:Nat->List Nat->List Nat->Prop}{h:List Nat}(c:qy f a b)(p:f<=1000000)(m:BO i a b h):h.length<=102100000:=by
 have r:=c.len;rcases m with⟨d,g,_,l,q,rfl⟩ | ⟨d,rfl⟩
 ·obtain⟨k,e,s,_⟩:=c.str d;have j:(gz.filters (α:=VT (a+2)) b).length=k.length:=by rw[e.fil,av]
  rw[j]at l;have n:=e.wlen g.length;have o:=mA (e.dict g.length (by omega)).1;unfold wstream;simp only[ab,ag,aw];omega
 ·have:=mA (c.val d);omega
def tL(a:List Nat)(b:VT 12 × List Nat):Prop:=∀r:List Nat,lN (10::(a++(10::([101,110,100,111,98,106]++(10::r)))))=some (b,10::([101,110,100,111,98,106]++(10::r)))
def nw:List (List Nat)->List (VT 12 × List Nat)->Prop
 | [],[]=>True
 |c::a,d::b=>tL c d/\nw a b
 |_,_=>False
theorem nw.len:∀{l:List (List Nat)} {b:List (VT 12 × List Nat)},nw l b->l.length=b.length
 | [],[],_=>rfl
 |_::_,_::_,a=>by rw[ag,ag,nw.len a.2]
 | [],_::_,a=>a.elim
 |_::_,[],a=>a.elim
theorem ox(a:Nat):iE (a:Int)=iP a:=by unfold iE;rw[au (by omega)];rfl
theorem yX{a:List Nat}{d:VT 12 × List Nat}{c:Nat}(f:tL a d)(r:List Nat):kC (c+1) (jJ (c+1) a++r)=some (d,10::r):=by unfold kC jJ wohead;rw[ox];simp only[ak];rw[qC,lJ (oL _) (jj.lit (by decide))];simp only[cj,cC];rw[mi rfl];have e1:gF [48] (48::32::111::98::106::10::(a++(10::101::110::100::111::98::106::10::r)))=some (32::111::98::106::10::(a++(10::101::110::100::111::98::106::10::r))):=lJ (s:=[48]) (mz (by simp) (by decide)) (jj.cons (by decide));rw[e1];simp only[];rw[mi rfl];have e2:gF [111,98,106] (111::98::106::10::(a++(10::101::110::100::111::98::106::10::r)))=some (10::(a++(10::101::110::100::111::98::106::10::r))):=lJ (s:=[111,98,106]) (mz (by simp) (by decide)) (jj.cons (by decide));rw[e2];simp only[];have b:=f r;simp only[cj,cC]at b;rw[b];simp only[];rw[mi rfl];have e:gF [101,110,100,111,98,106] (101::110::100::111::98::106::10::r)=some (10::r):=lJ (s:=[101,110,100,111,98,106]) (mz (by simp) (by decide)) (jj.cons (by decide));rw[e]
theorem vP(c:Nat)(h r:List Nat):∃b g,jJ c h++r=b::g/\48<=b/\b<=57:=by obtain⟨d,e⟩:=oD c;obtain⟨b,i,a⟩:=c_ d;have f:=e b (by rw[a];exact aQ ..);unfold jJ wohead;rw[ox,a];exact⟨b,_,rfl,f⟩
theorem xK(a:List (List Nat))(c:Nat)(r:List Nat):gG (gK a c++([120,114,101,102]++r))=gK a c++([120,114,101,102]++r):=by
 cases a with
 |nil=>exact sA (by decide)
 |cons f a=>rw[gK,ak];obtain⟨b,g,d,e⟩:=vP c f (gK a (c+1)++([120,114,101,102]++r));rw[d];exact sA (sQ e)
theorem u_(len:Nat)(r:List Nat):∀(c:List (List Nat)) (i:List (VT 12 × List Nat)) (a g e:Nat),nw c i->c.length<g->len=e+(gK c (a+1)++([120,114,101,102]++r)).length ->
  jp len g a (gK c (a+1)++([120,114,101,102]++r))=some ((i,gV c e (a+1)),[120,114,101,102]++r)
 | [],[],a,g+1,e,_,_,_=>rfl
 |f::c,q::i,a,g+1,e,d,h,k=>by
  have j:gK (f::c) (a+1)++([120,114,101,102]++r)=jJ (a+1) f++(gK c (a+1+1)++([120,114,101,102]++r)):=by rw[gK,ak]
  have ih:=u_ len r c i (a+1) g (e+(jJ (a+1) f).length) d.2 (by simp only[ag]at h;omega) (by rw[k,j,ab];omega);rw[j]at k ⊢;rw[jp];obtain⟨b,p,l,o⟩:=vP (a+1) f (gK c (a+1+1)++([120,114,101,102]++r));have m:¬ ([120,114,101,102]:List Nat).isPrefixOf (jJ (a+1) f++(gK c (a+1+1)++([120,114,101,102]++r)))=true:=by
   rw[l];have:(120:Nat)≠b:=by omega
   simp[List.isPrefixOf,this]
  rw[au m,yX d.1];simp only[];rw[qu (by rfl),xK,ih];have n:len-(jJ (a+1) f++(gK c (a+1+1)++([120,114,101,102]++r))).length=e:=by omega
  rw[n];rfl
 |_::_,_::_,_,0,_,_,h,_=>by omega
 | [],[],_,0,_,_,h,_=>by simp at h
 | [],_::_,_,_,_,d,_,_=>d.elim
 |_::_,[],_,_,_,d,_,_=>d.elim
theorem uT(r:List Nat):∀a:List Nat,jE a (a.flatMap jv++r)=some r
 | []=>rfl
 |b::a=>by
  have ih:=uT r a;rw[cH,ak,jE];have d:jI (jY b++[32,48,48,48,48,48,32,110]) (jv b++(a.flatMap jv++r))=some (a.flatMap jv++r):=by generalize a.flatMap jv++r=c;unfold jI jv;rw[show jO 10 b++[32,48,48,48,48,48,32,110,32,10]++c=(jY b++[32,48,48,48,48,48,32,110])++([32,10]++c)by unfold jO jY;simp,nu];simp only[];rw[nu];rfl
  rw[d];exact ih
theorem Ap(a:Nat)(b r:List Nat):k_ a b (jR a++r)=jE b r:=by unfold k_ jR;rw[show((a:Int)+1)=((a+1:Nat):Int)by omega,ox,show([120,114,101,102,10,48,32]++(iP (a+1)++[10,48,48,48,48,48,48,48,48,48,48,32,54,53,53,51,53,32,102,32,10]))++r=([120,114,101,102,10,48,32]++iL (a+1)++[10])++(([48,48,48,48,48,48,48,48,48,48,32,54,53,53,51,53,32,102]:List Nat)++([32,10]++r))by rw[qC];simp,nu];simp only[];unfold jI;rw[nu];simp only[];rw[nu];rfl
def tE(a k:Nat):gz (VT 11):=⟨7,0,0,[],[(hJ (VT 10) 2 ((a+1:Nat):Int) 0 []:VT 11),(hJ (VT 10) 9 (k:Int) 0 []:VT 11)],[[83,105,122,101],[82,111,111,116]],[]⟩
theorem wW(a k:Nat):l7 a (tE a k)=some (k:Int):=by
 have b:l7 a (tE a k)=if((a+1:Nat):Int)=((a+1:Nat):Int)then some (k:Int)else none:=rfl
 rw[b,aA rfl]
theorem q_{k b:Nat}(a:lM b=true)(r:List Nat):gI (k+1) (b::r)=gI (k+1) r:=by
 have:=(pS.white a).value (k:=k) r
 rwa [List.singleton_append]at this
theorem r7{b:Nat}{e:List Nat}(a:pB b=false)(d:lM b=false)(c:b≠37):gY (b::e)=none:=by unfold gY;rw[sC a d c (by simp)];rfl
theorem uY{b:Nat}{a:List Nat}(c:lM b=true):gY (b::a)=gY a:=by unfold gY;rw[mi c]
theorem zw(a k:Nat)(n:a+1<10^10)(l:k<10^10)(r:List Nat):mj a (wtrail ((a:Int)+1) (k:Int)++r)=some ((k:Int),10::r):=by
 have p:∀e:List Nat,gH [60,60] (gG ([60,60]++e))=some e:=λe=>by rw[show gG ([60,60]++e)=[60,60]++e from jz (by decide) (by decide),nu]
 have i:wtrail ((a:Int)+1) (k:Int)++r=[116,114,97,105,108,101,114]++(10::([60,60]++(47::([83,105,122,101]++(32::(iP (a+1)++(32::47::([82,111,111,116]++(32::(iP k++(32::48::32::82::62::62::10::r))))))))))):=by unfold wtrail;rw[show((a:Int)+1)=((a+1:Nat):Int)by omega,ox,ox];simp
 unfold mj;rw[i,lJ (mz (by simp) (by decide)) (jj.cons (by decide))];simp only[];rw[qu (by rfl),p];simp only[];obtain⟨d,g⟩:∃d,47::([83,105,122,101]++(32::(iP (a+1)++(32::47::([82,111,111,116]++(32::(iP k++(32::48::32::82::62::62::10::r))))))))=d:=⟨_,rfl⟩;have j:∀c,jh (gI 11) (c+3) d=some (([[83,105,122,101],[82,111,111,116]],[(hJ (VT 10) 2 ((a+1:Nat):Int) 0 []:VT 11),(hJ (VT 10) 9 (k:Int) 0 []:VT 11)]),10::r):=λc=>by
  have q:ke ([83,105,122,101]++(32::(iP (a+1)++(32::47::([82,111,111,116]++(32::(iP k++(32::48::32::82::62::62::10::r))))))))=some ([83,105,122,101],_):=r9 (by decide) (jj.cons (by decide));have t:gI 11 (32::(iP (a+1)++(32::47::([82,111,111,116]++(32::(iP k++(32::48::32::82::62::62::10::r)))))))=some ((hJ (VT 10) 2 ((a+1:Nat):Int) 0 []:VT 11),32::47::([82,111,111,116]++(32::(iP k++(32::48::32::82::62::62::10::r))))):=by rw[q_ rfl];exact xN (oL _) (jj.cons (by decide)) (sE n) (by rw[uY rfl];exact r7 (by decide) (by decide) (by decide))
  have s:ke ([82,111,111,116]++(32::(iP k++(32::48::32::82::62::62::10::r))))=some ([82,111,111,116],_):=r9 (by decide) (jj.cons (by decide));have o:gY (32::48::32::82::62::62::10::r)=some (62::62::10::r):=by unfold gY;rw[mi rfl,show(48::32::82::62::62::10::r:List Nat)=[48]++(32::82::62::62::10::r)from rfl,lJ (mz (by simp) (by decide)) (jj.cons (by decide))];show gF [82] (32::_)=_;rw[mi rfl,show(82::62::62::10::r:List Nat)=[82]++(62::62::10::r)from rfl,lJ (mz (by simp) (by decide)) (jj.cons (by decide))]
  have u:gI 11 (32::(iP k++(32::48::32::82::62::62::10::r)))=some ((hJ (VT 10) 9 (k:Int) 0 []:VT 11),62::62::10::r):=by rw[q_ rfl];exact xO (oL _) (jj.cons (by decide)) (sE l) o
  rw[<-g,td q t];have h:=yw (α:=VT 11) (f:=gI 11) (pS.white (b:=32) rfl) (c+1) (47::([82,111,111,116]++(32::(iP k++(32::48::32::82::62::62::10::r)))));rw[List.singleton_append]at h;rw[h,td s u,xn];rfl
 obtain⟨c,m⟩:∃c,d.length+1=c+3:=⟨d.length-2,by rw[<-g];simp only[ag,ab];omega⟩;rw[g,m,j c];show(l7 a (tE a k)).map _=_;rw[wW];rfl
theorem uL(a:Nat):lW a (10::([115,116,97,114,116,120,114,101,102,10]++(iP a++[10,37,37,69,79,70,10])))=some []:=by unfold lW;rw[mi rfl,show([115,116,97,114,116,120,114,101,102,10]:List Nat)++(iP a++[10,37,37,69,79,70,10])=[115,116,97,114,116,120,114,101,102]++(10::(iP a++[10,37,37,69,79,70,10]))from rfl,lJ (mz (by simp) (by decide)) (jj.cons (by decide))];simp only[];rw[mi (by rfl),qC,lJ (oL _) (jj.cons (by decide))];rfl
def pC(a:List (List Nat))(c:Int)(b:List Nat):List Nat:=
 iq++gK a 1++(j7 (gV a 9 1)++(wtrail ((a.length:Int)+1) c++([115,116,97,114,116,120,114,101,102,10]++(iE (((iq++gK a 1).length:Nat):Int)++b))))
theorem tf{a:List (List Nat)}{g:List (VT 12 × List Nat)}{k:Nat}(b:List Nat)(h:nw a g)(u:a.length<=1000)(n:k<10^10) :
  iM (pC a (k:Int) b)=(lW (iq++gK a 1).length (10::([115,116,97,114,116,120,114,101,102,10]++(iP (iq++gK a 1).length++b)))).map λ_=>(g,(k:Int)):=by
 have o:=h.len;obtain⟨c,j⟩:∃c,j7 (gV a 9 1)++(wtrail ((a.length:Int)+1) (k:Int)++([115,116,97,114,116,120,114,101,102,10]++(iE (((iq++gK a 1).length:Nat):Int)++b)))=[120,114,101,102]++c:=⟨_,rfl⟩;have f:pC a (k:Int) b=[37,80,68,70,45,49,46,52,10]++(gK a 1++([120,114,101,102]++c)):=by unfold pC;rw[j,ak];rfl
 have i:(pC a (k:Int) b).length=9+(gK a 1++([120,114,101,102]++c)).length:=by rw[f,ab];rfl
 have l:(iq++gK a 1).length=9+(gK a 1).length:=by rw[ab];rfl
 have m:∀(d:List (List Nat)) (e:Nat),d.length<=(gK d e).length:=by
  intro d;induction d with
  |nil=>intro e;exact aE _
  |cons s d ih =>
   intro e;have:=ih (e+1);rw[gK,ab];have t:1<=(jJ e s).length:=by unfold jJ;simp only[ab,ag];omega
   simp only[ag];omega
 have p:=u_ (pC a (k:Int) b).length c a g 0 ((gK a 1++([120,114,101,102]++c)).length+2) 9 h (by have:=m a 1;simp only[ab];omega) i;unfold iM;rw[f,nu];simp only[];rw[xK,<-f,p];simp only[];have r:(pC a (k:Int) b).length-([120,114,101,102]++c).length=(iq++gK a 1).length:=by rw[i,l,ab];omega
 rw[r,<-j,<-o];have q:j7 (gV a 9 1)=jR a.length++(gV a 9 1).flatMap jv:=by unfold j7;rw[kf]
 rw[q,ak,Ap,uT];simp only[];rw[zw _ _ (by omega) n];simp only[];rw[ox];cases lW (iq++gK a 1).length (10::([115,116,97,114,116,120,114,101,102,10]++(iP (iq++gK a 1).length++b)))<;>rfl
theorem p_{a:List (List Nat)}{b:List (VT 12 × List Nat)}{k:Nat}(c:nw a b)(e:a.length<=1000)(d:k<10^10):iM (jf a (k:Int))=some (b,(k:Int)):=by refine(tf [10,37,37,69,79,70,10] c e d).trans ?_;rw[uL];rfl
theorem xp{b:Nat}{a:List Nat}(c:a=[10,37,37,69,79]\/a=[10,37,37,69,79,70,10,32]):lW b (10::([115,116,97,114,116,120,114,101,102,10]++(iP b++a)))=none:=by
 have d:jj a:=by rcases c with rfl | rfl<;>exact jj.cons (by decide)
 unfold lW;rw[mi rfl,show([115,116,97,114,116,120,114,101,102,10]:List Nat)++(iP b++a)=[115,116,97,114,116,120,114,101,102]++(10::(iP b++a))from rfl,lJ (mz (by simp) (by decide)) (jj.cons (by decide))];simp only[];rw[mi (by rfl),qC,lJ (oL _) d];rcases c with rfl | rfl<;>rfl
theorem qK{a:List (List Nat)}{f:List (VT 12 × List Nat)}{k:Nat}(c:nw a f)(e:a.length<=1000)(d:k<10^10):iM ((jf a (k:Int)).take ((jf a (k:Int)).length-2))=none/\iM (jf a (k:Int)++[32])=none:=by
 constructor
 ·have b:(jf a (k:Int)).take ((jf a (k:Int)).length-2)=pC a (k:Int) [10,37,37,69,79]:=by
   have e1:jf a (k:Int)=pC a (k:Int) [10,37,37,69,79]++[70,10]:=by simp[jf,pC]
   rw[e1,ab,List.take_left' (by simp)]
  rw[b,tf _ c e d,xp (Or.inl rfl)];rfl
 ·have b:jf a (k:Int)++[32]=pC a (k:Int) [10,37,37,69,79,70,10,32]:=by simp[jf,pC]
  rw[b,tf _ c e d,xp (Or.inr rfl)];rfl
def kL:{k:Nat}->VT k->Prop
 |0,_=>False
 |k+1,b=>b=hJ (VT k) 0 0 0 []\/(∃a:Int,(a=0\/a=1)/\b=hJ (VT k) 1 a 0 [])\/(∃a:Int,-9999999999<=a/\a<=9999999999/\b=hJ (VT k) 2 a 0 []) \/
  (∃(a:Int) (g:Nat),-999999999<=a/\a<=999999999/\g<=5/\(g=0\/a%10≠0)/\b=hJ (VT k) 3 a g [])\/(∃e:List Nat,(∀c∈e,0<c/\c<256)/\b=hJ (VT k) 4 0 0 e)\/(∃e:List Nat,(∀c∈e,c<256)/\b=hJ (VT k) 5 0 0 e) \/
  (∃d:List (VT k),(∀h∈d,kL (k:=k) h)/\b=(⟨6,0,0,[],d,[],[]⟩:gz (VT k)))\/(∃(f:List (List Nat)) (d:List (VT k)),f.length=d.length/\(∀s∈f,∀c∈s,0<c/\c<256)/\(∀h∈d,kL (k:=k) h)/\b=(⟨7,0,0,[],d,f,[]⟩:gz (VT k))) \/
  ∃a:Nat,0<a/\a<10^10/\b=hJ (VT k) 9 (a:Int) 0 []
structure mc(r:List Nat):Prop where
 np:jj r
 ref:gY r=none
 r82:gF [82] r=none
theorem mc.mark{b:Nat}{e:List Nat}(a:pB b=false)(d:lM b=false)(c:b≠37):mc (b::e):=⟨jj.cons a,r7 a d c,sC a d c (by simp)⟩
theorem mc.white{b:Nat}{c:List Nat}(a:lM b=true)(d:gY c=none)(e:gF [82] c=none):mc (b::c):=⟨jj.cons (by unfold pB;rw[a];rfl),by rw[uY a];exact d,by rw[mi a];exact e⟩
theorem qG{s r:List Nat}(b:kE s)(a:jj r)(d:s≠[82])(e:s=[48]->gF [82] r=none):gY (s++r)=none/\gF [82] (s++r)=none:=by
 refine⟨?_,tB b a d⟩;unfold gY;by_cases c:s=[48]
 ·subst c;rw[lJ b a];exact e rfl
 ·rw[tB b a c];rfl
theorem vO(c:Int):kE (iE c):=by
 unfold iE;split
 ·exact⟨by simp,λb a=>by
   rcases bT.1 a with rfl | a;·rfl
   ·exact(oL _).2 b a⟩
 ·exact oL _
theorem vN(c:Int):∃b g,iE c=b::g/\(b=45\/48<=b/\b<=57):=by
 unfold iE;split;·exact⟨45,_,rfl,Or.inl rfl⟩
 ·obtain⟨d,e⟩:=oD c.toNat;obtain⟨b,f,a⟩:=c_ d;exact⟨b,f,a,Or.inr (e b (by rw[a];exact aQ ..))⟩
theorem zF{a:Nat}(e:a<10^10):jQ (45::iP a)=some (-(a:Int)):=by obtain⟨c,g⟩:=oD a;have d:gA (45::iP a)=([45],iP a):=rfl;unfold jQ;rw[d];have i:=nN 9 a e;have f:1<=(iP a).length:=eP.2 c;rw[aA ⟨f,i⟩];unfold kI;rw[d,aA ⟨c,by rw[dF];intro b h;have:=g b h;simp[j6];omega⟩,aA rfl,rY]
theorem zG{a:Int}(b : -9999999999<=a)(c:a<=9999999999):jQ (iE a)=some a:=by
 unfold iE;split
 ·rw[show(iL a.natAbs)=iP a.natAbs from qC _,zF (by omega)];congr 1;omega
 ·rw[qC,sE (by omega)];congr 1;omega
theorem th{r:List Nat}(e:jj r):∀a:List Nat,(∀g∈a,0<g/\g<256)->ke (a.flatMap i9++r)=some (a,r)
 | [],_=>r9 (s:=[]) (λb c=>by cases c) e
 |b::a,f=>by
  have ih:g7 0 0 (a.flatMap i9++r)=some (a,r):=th e a (λk h=>f k (aV _ h));have l:=f b (aQ ..);rw[cH,ak];by_cases c:iN b=true/\b≠35
  ·rw[i9,aA c];have d:=c.1;unfold iN at d;simp only[dX,cQ]at d;show g7 0 0 (b::(a.flatMap i9++r))=_;rw[g7,au (by rw[d.1];simp),au (by omega),au c.2,ih];rfl
  ·rw[i9,au c];have i:iQ (gP (b/16))=some (b/16):=(uP (b/16) (by omega)).1;have j:iQ (gP (b%16))=some (b%16):=(uP (b%16) (by omega)).1;show g7 0 0 (35::gP (b/16)::gP (b%16)::(a.flatMap i9++r))=_;rw[g7,au (by decide),au (by decide),aA rfl,g7,i];simp only[];rw[g7,j];simp only[];rw[au (by omega),ih,show 16*(b/16)+b%16=b by omega];rfl
theorem vv(r:List Nat):∀(c:List Nat) (a:Nat),(∀k∈c,k<256)->c.length<a->iJ a 1 (c.flatMap jV++41::r)=some (c,r)
 | [],0,_,e=>by simp at e
 | [],a+1,_,_=>rfl
 |b::c,0,_,e=>by simp at e
 |b::c,a+1,g,e=>by
  have ih:=vv r c a (λl j=>g l (aV _ j)) (by simp only[ag]at e;omega);have h:=g b (aQ ..);rw[cH,ak];generalize m:c.flatMap jV++41::r=d at ih ⊢;unfold jV;split
  ·rename_i f;have i:jW (b::d)=some ([b],d):=by rcases f with rfl | rfl | rfl<;>rfl
   show iJ (a+1) 1 (92::(b::d))=_;rw[vp i,ih];rfl
  ·rename_i f;split
   ·rename_i n;show iJ (a+1) 1 (b::d)=_;rw[iJ.eq_def];simp only[];rw[show iG (b::d)=none by unfold iG;rw[kA (by omega),kA (by omega),kA (by omega)];rfl];simp only[];rw[au (by omega),au (by omega),au (by omega),ih];rfl
   ·show iJ (a+1) 1 (92::((48+b/64)::(48+b/8%8)::(48+b%8)::d))=_;rw[vp (yh h _),ih];rfl
theorem A9{a:List Nat}(b:∀c∈a,c<256)(r:List Nat):lZ (a.flatMap jV++41::r)=some (a,r):=by
 refine vv r a _ b ?_;have:=uM jV 1 (λd=>by
  unfold jV;split;· simp
  ·split<;>simp) a
 rw[ab];omega
end Go.Proofs.YtgkljcmjnphpeaaGreatDoor
