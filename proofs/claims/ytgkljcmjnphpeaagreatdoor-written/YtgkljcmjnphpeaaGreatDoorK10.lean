import Derived.Test.YtgkljcmjnphpeaaGreatDoorK09
set_option linter.unusedVariables false
set_option linter.unusedSimpArgs false
set_option maxHeartbeats 4000000
set_option maxRecDepth 100000
namespace Go.Proofs.YtgkljcmjnphpeaaGreatDoor
open Go.RowKit
section
def iL(a:Nat):List Nat:=(Lib.decDigits a).map UInt8.toNat
def jY(a:Nat):List Nat:=List.replicate (10-(iL a).length) 48++iL a
def jI(b r:List Nat):Option (List Nat):=match gH b r with
 |none=>none
 |some a=>(gH [32,10] a).or (gH [13,10] a)
def jE:List Nat->List Nat->Option (List Nat)
 | [],r=>some r
 |a::b,r=>match jI (jY a++[32,48,48,48,48,48,32,110]) r with
  |none=>none
  |some c=>jE b c
def k_(n:Nat)(b r:List Nat):Option (List Nat):=match gH ([120,114,101,102,10,48,32]++iL (n+1)++[10]) r with
 |none=>none
 |some a=>match jI [48,48,48,48,48,48,48,48,48,48,32,54,53,53,51,53,32,102] a with
  |none=>none
  |some a=>jE b a
theorem Tryz.gPow : Tryz.prog.globalNamed "internal/strconv.uint64pow10" = some 0:=by kernel_rfl
structure lD(B:Nat)(w:World):Prop where
 err:o_ B w
 pow:Lib.TabIs Tryz.prog w "internal/strconv.uint64pow10" .u64 Lib.pow10Tab
 lp : 0<B
variable{B bs cap:Nat}{ao:Option Addr}{data:List Nat}{c d f:Value}{w w':World}{r q:List Nat}
theorem lD.only(a:lD B w)(e:B<=bs)(g:B<=w.heap.size)(k:gQ bs w w'):lD B w':=by have b:=a.lp;refine⟨a.err.only e g k,?_,a.lp⟩;have:=a.pow;unfold Lib.TabIs World.var? at this ⊢;rw[Tryz.gPow]at this ⊢;simp only[Option.bind_some]at this ⊢;rw[k.block _ (aC b g) (Nat.ne_of_lt (aC b e))];exact this
theorem Sc.env(a:Sc B bs ao cap data c d f w r):B<=w.heap.size:=e_ (dD a.hb a.lt)
theorem bg(w:World)(k:Nat)(b:Array Obj):Below w.heap.size w (Sort.grow (w.drewN k) b):=
 ⟨rfl,rfl,rfl,by simp[Sort.grow],λe a=>by simp[Sort.grow,Array.getElem?_append,a]⟩
theorem Gt(a:Nat):gC (iL a)=⟨(Lib.decDigits a).toArray⟩:=by
 unfold gC iL;congr 2;rw[dZ];conv=>rhs;rw[<-List.map_id (Lib.decDigits a)]
 exact List.map_congr_left (λb _=>by simp)
theorem io(e:lD B w)(i:B<=w.heap.size)(a:Nat)(h:a<=9223372036854775807) :
  Calls Tryz.prog 97 #[.int .i64 (a:Int)] w λb w'=>b=.returned (.string (gC (iL a)))/\Below w.heap.size w w':=by
 refine(Tryz.strconv_Itoa a (by omega) (by omega) w e.pow).mono ?_;rintro b w' ⟨rfl,k,g,rfl⟩;refine⟨?_,bg w k g⟩;rw[Gt];unfold Lib.itoa;rw[au (by omega)];rfl
theorem xo:∀(k a:Nat),a<10^(k+1)->(iL a).length<=k+1
 |0,a,b=>by unfold iL;rw[Lib.decDigits,dif_pos (by simpa using b)];simp
 |k+1,a,b=>by
  have ih:=xo k (a/10) (by rw[Nat.div_lt_iff_lt_mul (by decide)];rw[dG]at b;exact b);unfold iL at ih ⊢;rw[Lib.decDigits];split;·simp
  ·rw[av]at ih ⊢;rw[ab,eD];omega
theorem Eh(a b:List Nat):gC (a++b)=gC a++gC b:=by unfold gC;rw[aH];apply fP;simp
theorem wR(a:List Nat):(gC a).size=a.length:=by unfold gC;simp[ByteArray.size]
theorem KN(a:Nat):gC (List.replicate a 48)=⟨(Lib.repeatL [48] a).toArray⟩:=by
 unfold gC;congr 2;induction a with
 |zero=>rfl
 |succ a ih=>rw[fL,bJ,ih];rfl
theorem DC(p:lD B w)(u:B<=w.heap.size)(a:Nat)(C:a<=200000) :
  Calls Tryz.prog 133 #[.int .i64 (a:Int),.int .i64 10] w λj w'=>j=.returned (.string (gC (jY a)))/\Below w.heap.size w w':=by
 have k:=gv (io p u a (by omega));have y:(iL a).length<=10:=aD (xo 5 a (by omega)) (by decide);have E:(gC (iL a)).size=(iL a).length:=wR _;have l:Hid (gC (jY a)=⟨(Lib.repeatL [48] (10-(iL a).length)).toArray⟩++gC (iL a)):=by unfold Hid jY;rw[Eh,KN]
 generalize gC (iL a)=i at *;generalize (iL a).length=b at *;generalize gC (jY a)=v at *;have A:max (0:Int) (10-(i.size:Int))=((10-b:Nat):Int):=by omega
 have z:IntKind.i64.wrap (10-(i.size:Int))=((10-b:Nat):Int):=by rw[bP];omega
 clear p;go_enter Tryz.func133,Tryz.ntmps133;go_wp2_with fail;refine k.o.mono ?_;rintro j F ⟨rfl,m⟩;have h:=gv m;clear m k;go_wp2_with fail;rw[show max (0:Int) (10-(b:Int))=((10-b:Nat):Int)by omega];refine(Tryz.strings_Repeat { data:=#[48] } (10-b) _ (by omega) (by simp[ByteArray.size];omega)).mono ?_;rintro j G ⟨s,n⟩;obtain⟨e,g⟩:∃e:ByteArray,⟨(Lib.repeatL [48] (10-b)).toArray⟩=e:=⟨_,rfl⟩;have D:e.size<=10:=by rw[<-g];simp[ByteArray.size,Lib.repeatL_length]
 rw[show({ data:=#[48] }:ByteArray).data.toList=[48]from rfl,g]at s;rw[g]at l;subst s;have t:=gv (h.o.trans (n.mono h.o.size));have x:¬ 9223372036854775807<e.size+i.size:=by omega
 clear n h g;go_wp2;go_ret;exact⟨by rw[l.o];rfl,t.o⟩
def qS(B bs:Nat)(ao:Option Addr)(cap:Nat)(data:List Nat)(c d f:Value)(b:Option (List Nat))(w:World)(a:Ending)(w':World):Prop:=
 match b with
 |some q=>a=.returned (.tuple #[])/\Sc B bs ao cap data c d f w' q/\gQ bs w w'
 |none=>a=gU 4/\gQ bs w w'
theorem qS.none_{a:Option (List Nat)}(b:a=none)(k:gQ bs w w'):qS B bs ao cap data c d f a w (gU 4) w':=by subst b;exact⟨rfl,k⟩
theorem qS.some_{a:Option (List Nat)}(b:a=some q)(e:Sc B bs ao cap data c d f w' q)(k:gQ bs w w'):qS B bs ao cap data c d f a w (.returned (.tuple #[])) w':=by subst b;exact⟨rfl,e,k⟩
theorem GF(z:Sc B bs ao cap data c d f w r)(g:ByteArray)(A:0<g.size)(C:g.size<=1000000) :
  Calls Tryz.prog 195 #[.pointer (some ⟨bs,0,none⟩),.string g] w (qS B bs ao cap data c d f (jI (bl g) r) w):=by
 have h:=gv (tY z g A C);obtain⟨x,u⟩:∃x,jI (bl g) r=x:=⟨_,rfl⟩;rw[u];have a:=gv u;unfold jI at a;clear z u A C;cases e1:gH (bl g) r with
 |none=>rw[e1]at h a;go_enter Tryz.func195,Tryz.ntmps195;go_wp2_with fail;refine h.o.mono ?_;rintro b D ⟨rfl,t,p⟩;go_wp2_with fail;refine(sn _).mono ?_;rintro b w' ⟨rfl,rfl⟩;exact⟨rfl,.none_ a.o.symm p⟩
 |some q =>
  rw[e1]at h a;simp only[]at a;go_enter Tryz.func195,Tryz.ntmps195;go_wp2_with fail;refine h.o.mono ?_;rintro b D ⟨rfl,t,p⟩;have i:=gv (tY (show Sc B bs ao cap data c d f D q from t) { data:=#[32,10] } (by decide) (by decide));rw[show bl { data:=#[32,10] }=[32,10]from rfl]at i;have v:=gv p;clear t p h;go_wp2_with fail;refine(oq _).mono ?_;rintro b w' ⟨rfl,k⟩;subst k;cases e2:gH [32,10] q with
  |some H =>
   rw[e2]at i a;go_wp2_with fail;refine i.o.mono ?_;rintro b E ⟨rfl,j,l⟩;have e:=gv j;have n:=gv (v.o.trans l);clear j l;go_wp2_with fail;refine(oq _).mono ?_;rintro b w' ⟨rfl,k⟩;subst k;go_wp2
   go_end0
   exact .some_ a.o.symm e.o n.o
  |none =>
   rw[e2]at i a;go_wp2_with fail;refine i.o.mono ?_;rintro b E ⟨rfl,j,l⟩;have e:=gv (tY (show Sc B bs ao cap data c d f E q from j) { data:=#[13,10] } (by decide) (by decide));rw[show bl { data:=#[13,10] }=[13,10]from rfl]at e;have n:=gv (v.o.trans l);clear j l;cases y:gH [13,10] q with
   |some I =>
    rw[y]at e a;go_wp2_with fail;refine e.o.mono ?_;rintro b G ⟨rfl,h3,m⟩;have F:=gv h3;have s:=gv (n.o.trans m);clear h3 m;go_wp2_with fail;refine(oq _).mono ?_;rintro b w' ⟨rfl,k⟩;subst k;go_wp2
    go_end0
    exact .some_ a.o.symm F.o s.o
   |none=>rw[y]at e a;go_wp2_with fail;refine e.o.mono ?_;rintro b G ⟨rfl,h3,m⟩;have s:=gv (n.o.trans m);clear h3 m;go_wp2_with fail;refine(sn _).mono ?_;rintro b w' ⟨rfl,rfl⟩;exact⟨rfl,.none_ a.o.symm s.o⟩
theorem Fx(b:Sc B bs ao cap data c d f w r){j:Option Addr}{a k:Nat}(h:c=.slice j a k)(m:a<=200000) :
  Calls Tryz.prog 194 #[.pointer (some ⟨bs,0,none⟩)] w λe w'=>e=.returned (.int .i64 (a+1:Nat))/\∃i,w'=w.drewN i:=by
 subst h;have l:=qJ b.blk;have g:IntKind.i64.wrap ((a:Int)+1)=((a+1:Nat):Int):=by rw[bP];omega
 clear b;go_enter Tryz.func194,Tryz.ntmps194;go_wp2;go_ret;exact⟨by first | rfl | (rw[g]),0,rfl⟩
end
section
variable{B j d:Nat}{C:Option Addr}{a:List Nat}{s E A:Value}{w w':World}{r q:List Nat}
theorem gQ.drew{b:Nat}(w:World):gQ b w w.drew:=.of_below (aj _ _).drew
theorem BR(e:Nat):∀b∈iL e,b<256:=by intro b c;obtain⟨f,_,rfl⟩:=cv.1 c;exact f.toNat_lt
theorem JT(e:Nat):∀c∈jY e,c<256:=by
 intro c f;rcases bH.1 f with b | b;·rw[(List.mem_replicate.1 b).2];decide
 ·exact BR e c b
theorem tableLines_none(e:List Nat)(b:Nat)(r:List Nat)(c:jI (jY b++[32,48,48,48,48,48,32,110]) r=none):jE (b::e) r=none:=by rw[jE,c]
theorem tableLines_some(c:List Nat)(b:Nat)(r q:List Nat)(e:jI (jY b++[32,48,48,48,48,48,32,110]) r=some q):jE (b::c) r=jE c q:=by rw[jE,e]
theorem Hu(he:lD B w)(Q:Sc B j C d a s E A w r){oa:Option Addr}{n oc:Nat}(hx:s=.slice oa n oc)(hn:n<=200000)
  {p:List Nat} {b:Nat} (cd:∀l∈p,l<=200000) (b8:p.length<=200000) (ao:w.ownsRow b 3 1 A p.length (p.map λl:Nat=>.int .i64 (l:Int))) (b0:j<b) :
  Calls Tryz.prog 140 #[.pointer (some ⟨j,0,none⟩)] w (qS B j C d a s E A (k_ n p r) w):=by
 have bd:=Q.env;have Z:=gv Q;obtain⟨t,hN⟩:∃t,n+1=t:=⟨_,rfl⟩;have HZ:=gv (Fx Q.drew hx hn);rw[hN]at HZ;have HE:=gv he;have br:=gv ao;obtain⟨pa,pc,a0⟩:=i_ ao;obtain⟨al,hR⟩:∃al,k_ n p r=al:=⟨_,rfl⟩;rw[hR];have h:=gv hR;unfold k_ at h;rw[hN]at h;have cm:t<=200001:=by omega
 clear Q he ao hR;go_enter Tryz.func140,Tryz.ntmps140;go_wp2_with fail;refine p7 (λ_ _=>True) (by kernel_rfl) ?_;intro c;have f:=gv (show True from trivial);refine ti 0 ?_ c f ?_;clear c f;intro c f;(try simp only[gB])
 refine ti 1 ?_ c f ?_;clear c f;intro c f;(try simp only[gB])
 refine ti 2 ?_ c f ?_;clear c f;intro c f;(try simp only[gB])
 refine ti 3 ?_ c f ?_;clear c f;intro c f;(try simp only[gB])
 refine on 4 c λm g=>?_;go_simp;refine HZ.o.mono ?_;rintro u w1 ⟨rfl,m1,bm⟩;have b1:Below w.drew.heap.size w.drew w1:=by rw[bm];exact tN _ _
 clear bm;have ac:=gv (Z.o.drew.other b1);have V:Hid (gQ j w w1):=(gQ.drew w).trans (.of_below b1);clear b1 HZ;refine g.o _ _ trivial (λe i=>?_);clear c f g m;have c:=e;have f:=i;clear e i
 (try simp only[gB])
 refine on 5 c λm g=>?_;go_simp;have a4:=gv (HE.o.only Z.o.hb bd V.o);refine(io a4.o ac.o.env t (by omega)).mono ?_;rintro u w2 ⟨rfl,b2⟩;have a8:=gv (ac.o.other b2);have W:=gv (V.o.trans (.of_below b2));clear b2 V ac a4;obtain⟨x,e⟩:∃x,gC (iL t)=x:=⟨_,rfl⟩;have ck:x.size<=10:=by rw[<-e,wR];exact aD (xo 5 t (by omega)) (by decide)
 have a2:Hid (bl x=iL t):=by unfold Hid;rw[<-e,wu _ (BR _)]
 rw[e];clear e;refine g.o _ _ trivial (λe i=>?_);clear c f g m;have c:=e;have f:=i;clear e i
 (try simp only[gB])
 have b3:¬ 9223372036854775807<7+x.size:=by omega
 obtain⟨F,R⟩:∃F:ByteArray,{ data:=#[120,114,101,102,10,48,32] }++x=F:=⟨_,rfl⟩;have co:F.size<=17:=by rw[<-R,ByteArray.size_append,show({ data:=#[120,114,101,102,10,48,32] }:ByteArray).size=7 from rfl];omega
 have bb:Hid (bl F=[120,114,101,102,10,48,32]++iL t):=by unfold Hid;rw[<-R,zO,a2.o];rfl
 refine on 6 c λm g=>?_;go_simp;try rw[R]
 clear R a2 b3;refine g.o _ _ trivial (λe i=>?_);clear c f g m;have c:=e;have f:=i;clear e i
 (try simp only[gB])
 have b4:¬ 9223372036854775807<F.size+1:=by omega
 obtain⟨G,S⟩:∃G:ByteArray,F++{ data:=#[10] }=G:=⟨_,rfl⟩;have bx:G.size<=18/\0<G.size:=by rw[<-S,ByteArray.size_append,show({ data:=#[10] }:ByteArray).size=1 from rfl];omega
 have bc:Hid (bl G=[120,114,101,102,10,48,32]++iL t++[10]):=by unfold Hid;rw[<-S,zO,bb.o];rfl
 refine on 7 c λm g=>?_;go_simp;try rw[S]
 clear S bb b4;refine g.o _ _ trivial (λe i=>?_);clear c f g m;have c:=e;have f:=i;clear e i
 (try simp only[gB])
 have z:=gv (tY a8.o G bx.2 (by omega));rw[bc.o]at z;clear bc;cases e1:gH ([120,114,101,102,10,48,32]++iL t++[10]) r with
 |none =>
  rw[e1]at z h;refine on 8 c λm g=>?_;go_simp;refine z.o.mono ?_;rintro u w3 ⟨rfl,h3,N⟩;have K3:=gv (W.o.trans N);clear h3 N;refine g.o _ _ trivial (λe i=>?_);clear c f g m;have c:=e;have f:=i;clear e i
  (try simp only[gB])
  refine on 9 c λm g=>?_;go_simp;refine(sn _).mono ?_;rintro u w' ⟨rfl,rfl⟩;exact⟨rfl,.none_ h.o.symm K3.o⟩
 |some q =>
  rw[e1]at z h;simp only[]at h;refine on 8 c λm g=>?_;go_simp;refine z.o.mono ?_;rintro u w3 ⟨rfl,h3,N⟩;have a9:=gv (show Sc B j C d a s E A w3 q from h3);have X:=gv (W.o.trans N);clear h3 N W a8;refine g.o _ _ trivial (λe i=>?_);clear c f g m;have c:=e;have f:=i;clear e i
  (try simp only[gB])
  refine on 9 c λm g=>?_;go_simp;refine(oq _).mono ?_;rintro u w' ⟨rfl,hw⟩;subst hw;refine g.o _ _ trivial (λe i=>?_);clear c f g m;have c:=e;have f:=i;clear e i
  (try simp only[gB])
  refine mI (by kernel_rfl) ?_ _;clear c f;have D:=gv (GF a9.o { data:=#[48,48,48,48,48,48,48,48,48,48,32,54,53,53,51,53,32,102] } (by decide) (by decide));rw[show bl { data:=#[48,48,48,48,48,48,48,48,48,48,32,54,53,53,51,53,32,102] }=[48,48,48,48,48,48,48,48,48,48,32,54,53,53,51,53,32,102]from rfl]at D;clear z;cases e2:jI [48,48,48,48,48,48,48,48,48,48,32,54,53,53,51,53,32,102] q with
  |none=>rw[e2]at D h;go_wp2_with fail;refine D.o.mono ?_;rintro u w4 ⟨rfl,T⟩;exact⟨rfl,.none_ h.o.symm (X.o.trans T)⟩
  |some q2 =>
   rw[e2]at D h;simp only[]at h;go_wp2_with fail;refine D.o.mono ?_;rintro u w4 ⟨rfl,h4,T⟩;have a6:=gv (X.o.trans T);have ba:=gv h4;have c4:=pV h4.blk;rw[a0]at c4;have bv:=gv a0;obtain⟨P,hL⟩:∃P,p.length=P:=⟨_,rfl⟩;rw[hL]at c4 b8;have J:=gv hL;clear h4 T X a9 D a0 hL;go_wp2;clear c4;go_loopw [21] (λa1 wr=>∃(k:Nat) (q:List Nat),k<=P/\a1=.int .i64 k/\Hid (Sc B j C d a s E A wr q)/\Hid (gQ j w wr)/\Hid (jE (p.drop k) q=al)) (λa1 _=>P-(intOf a1).toNat)
   case atStart=>exact⟨0,q2,aE _,rfl,ba,a6,h⟩
   clear ba a6 h
   case round =>
    obtain⟨k,q,v,rfl,ad,O,h⟩:=hrel;rcases bN v with v | v
    ·subst v;rw[<-J.o,dY]at h;go_wp2
     go_end0
     exact .some_ h.o.symm ad.o O.o
    ·obtain⟨l,M⟩:∃l,p[k]?=some l:=⟨_,ai (by rw[J.o];exact v)⟩;have b9:l<=200000:=cd l (cB M);have bf:p.drop k=l::p.drop (k+1):=by rw[bU (by rw[J.o];exact v)];congr 1;rw[ai (by rw[J.o];exact v)]at M;simpa using M
     rw[bf]at h;have bn:=ul br.o O.o b0;obtain⟨ch,cg,bi,b7⟩:=ro bn (show(p.map λl:Nat=>Value.int .i64 (l:Int))[k]?=some (.int .i64 (l:Int))by rw[bj,M];rfl);rw[bv.o,J.o]at bi;cases bi;have a5:=gv (HE.o.only Z.o.hb bd O.o);have Y:=gv (DC a5.o ad.o.env l b9);obtain⟨y,e⟩:∃y,gC (jY l)=y:=⟨_,rfl⟩;have cl:y.size<=10:=by rw[<-e,wR,jY,ab,bW];have:=xo 5 l (by omega);omega
     have a3:Hid (bl y=jY l):=by unfold Hid;rw[<-e,wu _ (JT _)]
     rw[e]at Y;have b5:¬ 9223372036854775807<y.size+8:=by omega
     obtain⟨H,L⟩:∃H:ByteArray,y++{ data:=#[32,48,48,48,48,48,32,110] }=H:=⟨_,rfl⟩;have bz:H.size<=18/\0<H.size:=by rw[<-L,ByteArray.size_append,show({ data:=#[32,48,48,48,48,48,32,110] }:ByteArray).size=8 from rfl];omega
     have bw:Hid (bl H=jY l++[32,48,48,48,48,48,32,110]):=by unfold Hid;rw[<-L,zO,a3.o];rfl
     clear bf bn e a3 a5 M;go_wp2_with fail;refine Y.o.mono ?_;rintro u w6 ⟨rfl,b6⟩;have bs:=gv (ad.o.other b6);have a7:=gv (O.o.trans (.of_below b6));have K:=gv (GF bs.o H bz.2 (by omega));rw[bw.o]at K;clear b6 Y b7;cases I:jI (jY l++[32,48,48,48,48,48,32,110]) q with
     |none =>
      rw[I]at K;rw[tableLines_none _ _ _ I]at h;clear I;go_wp2_with fail;try rw[L]
      refine K.o.mono ?_;rintro u w7 ⟨rfl,U⟩;exact⟨rfl,.none_ h.o.symm (a7.o.trans U)⟩
     |some q3 =>
      rw[I]at K;rw[tableLines_some _ _ _ _ I]at h;clear I;go_wp2_with fail;try rw[L]
      refine K.o.mono ?_;rintro u w7 ⟨rfl,h7,U⟩;have bt:=gv h7;have bq:=gv (a7.o.trans U);clear h7 U L b5;go_wp2;go_roundw
      case rel=>exact⟨k+1,q3,by omega,by first | rfl | (congr 1),bt,bq,h⟩
      case measure=>simp[intOf];omega
def l7(c:Nat)(b:gz (VT 11)):Option Int:=
 if b.keys.length=2 then match itemOf { data:=#[83,105,122,101] } 2 b with
  |none=>none
  |some e=>if rZ e=((c+1:Nat):Int)then(itemOf { data:=#[82,111,111,116] } 9 b).map rZ else none
 else none
def mj(f:Nat)(r:List Nat):Option (Int × List Nat):=match gF [116,114,97,105,108,101,114] r with
 |none=>none
 |some q=>match gH [60,60] (gG q)with
  |none=>none
  |some c=>match(jh (gI 11) (c.length+1) c).map (λb=>((⟨7,0,0,[],b.1.2,b.1.1,[]⟩:gz (VT 11)),b.2))with
   |none=>none
   |some (e,q)=>(l7 f e).map λg=>(g,q)
def lW(b:Nat)(r:List Nat):Option (List Nat):=match gF [115,116,97,114,116,120,114,101,102] r with
 |none=>none
 |some q=>match gF (iL b) q with
  |none=>none
  |some q=>match iG q with
   |none=>none
   |some q=>match gH [37,37,69,79,70] q with
    |none=>none
    |some q=>if(iG q).getD q=[]then some []else none
theorem pq{x:Type}{e:List Nat->Option (x × List Nat)}(p:∀r v q,e r=some (v,q)->q.length+1<=r.length):∀(f:Nat) (r q:List Nat) (c:List (List Nat) × List x),jh e f r=some (c,q)->c.1.length=c.2.length/\c.2.length+q.length<=r.length
 |0,r,q,c,b=>by cases b
 |f+1,r,q,c,b=>by
  simp only[jh]at b;have H:=jo r;cases l:gH [62,62] (gG r)with
  |some n=>rw[l]at b;simp at b;have:=(ie l).1;rw[<-b.1,<-b.2];simp;omega
  |none =>
   rw[l]at b;simp only[]at b;cases g:gH [47] (gG r)with
   |none=>rw[g]at b;cases b
   |some n =>
    rw[g]at b;simp only[]at b;have I:=(ie g).1;cases i:ke n with
    |none=>rw[i]at b;cases b
    |some F =>
     obtain⟨k,t⟩:=F;rw[i]at b;simp only[]at b;have J:=kw n 0 0 k t i;cases m:e t with
     |none=>rw[m]at b;cases b
     |some G =>
      obtain⟨v,u⟩:=G;rw[m]at b;simp only[]at b;cases h:jh e f u with
      |none=>rw[h]at b;cases b
      |some o=>obtain⟨o,D⟩:=o;rw[h]at b;simp at b;have ih:=pq p f u D o h;have:=p _ _ _ m;obtain⟨y,z⟩:=b;subst y;subst z;simp only[ag];omega
theorem Co(e f g h i k:Value)(c:Int)(b:World):(Instr.field 67 (.agg #[e,.int .i64 c,f,g,h,i,k]) 1).run Tryz.prog b=.ok (.int .i64 c) b:=by kernel_rfl
def AK(_:World)(c:Int)(b:Value):Prop:=b=.int .i64 c
theorem LE(he:lD B w)(u:Sc B j C d a s E A w r){oa:Option Addr}{n oc:Nat}(hx:s=.slice oa n oc)(hn:n<=200000) :
  Calls Tryz.prog 141 #[.pointer (some ⟨j,0,none⟩)] w (kg B j C d a s E A AK (mj n r) w):=by
 have b3:=u.env;have HE:=gv he;have HB:=gv u.hb;have LT:=gv u.lt;have K:=gv (uu u { data:=#[116,114,97,105,108,101,114] });rw[show bl { data:=#[116,114,97,105,108,101,114] }=[116,114,97,105,108,101,114]from rfl]at K;obtain⟨N,hR⟩:∃N,mj n r=N:=⟨_,rfl⟩;rw[hR];have c:=gv hR;unfold mj at c;have HX:=gv hx;clear u he hR hx;cases e1:gF [116,114,97,105,108,101,114] r with
 |none=>rw[e1]at K c;go_enter Tryz.func141,Tryz.ntmps141;go_wp2_with fail;refine K.o.mono ?_;rintro f w1 ⟨rfl,h1,k1⟩;go_wp2_with fail;refine(sn _).mono ?_;rintro f w' ⟨rfl,rfl⟩;exact⟨rfl,.none_ c.o.symm k1⟩
 |some q =>
  rw[e1]at K c;simp only[]at c;go_enter Tryz.func141,Tryz.ntmps141;go_wp2_with fail;refine K.o.mono ?_;rintro f w1 ⟨rfl,h1,k1⟩;have L:=gv (wP (show Sc B j C d a s E A w1 q from h1) { data:=#[60,60] } (by decide) (by decide));rw[show bl { data:=#[60,60] }=[60,60]from rfl]at L;have K1:=gv k1;clear h1 k1 K;cases e2:gH [60,60] (gG q)with
  |none=>rw[e2]at L c;go_wp2_with fail;refine L.o.mono ?_;rintro f w2 ⟨rfl,h2,W⟩;have M:=gv (K1.o.trans W);clear h2 W;go_wp2_with fail;refine(sn _).mono ?_;rintro f w' ⟨rfl,rfl⟩;exact⟨rfl,.none_ c.o.symm M.o⟩
  |some a0 =>
   rw[e2]at L c;simp only[]at c;go_wp2_with fail;refine L.o.mono ?_;rintro f w2 ⟨rfl,h2,W⟩;have ac:=gv (show Sc B j C d a s E A w2 a0 from h2);have M:=gv (K1.o.trans W);clear h2 W K1 L;go_wp2_with fail;refine(oq _).mono ?_;rintro f w' ⟨rfl,v⟩;have v:=v.symm;subst v;have l:=gv (Gw (k:=11) (by decide) (El 11 (by decide)) (HE.o.only HB.o b3 M.o).err ac.o);rw[show((12-11:Nat):Int)=1 from rfl]at l;have c4:a0.length<=200000:=by have:=ac.o.le;have:=ac.o.len;omega
   cases e3:jh (gI 11) (a0.length+1) a0 with
   |none=>rw[e3]at l c;have Q:Hid (N=none):=c.o.symm;go_wp2_with fail;refine l.o.mono ?_;rintro f i ⟨rfl,k3⟩;exact⟨rfl,.none_ Q.o (M.o.trans k3)⟩
   |some a8 =>
    obtain⟨⟨ks,vs⟩,q3⟩:=a8;have a6:=pq (λr b4 q u=>kY u) _ _ _ _ e3;simp only[]at a6;rw[e3]at l c;simp only[fX]at l c;obtain⟨e,ao⟩:∃e:gz (VT 11),(⟨7,0,0,[],vs,ks,[]⟩:gz (VT 11))=e:=⟨_,rfl⟩;have bs:e.keys=ks:=by rw[<-ao]
    have a7:e.items=vs:=by rw[<-ao]
    rw[ao]at l c;have a5:e.keys.length=e.items.length:=by rw[bs,a7];exact a6.1
    have bv:e.items.length<=200000:=by rw[a7];omega
    clear ao e3 a6 bs a7;go_wp2_with fail;refine l.o.mono ?_;rintro f i ⟨b4,rfl,hv,h3,k3⟩;obtain⟨iv,kv,fv,b8,h,_,br,_,bt,bq⟩:=gR.parts hv;obtain⟨x,y,rfl⟩:=i_ br.1;obtain⟨D,F,rfl⟩:=i_ bt.1;obtain⟨m,p,rfl⟩:=i_ bq.1;have bi:=gv hv;have bf:=gv h3;have K3:=gv (M.o.trans k3);clear hv h3 k3 l br bt bq M ac;unfold nV at h;generalize (e.kind:Int)=G at h;generalize e.n=H at h;generalize (e.places:Int)=I at h;generalize gC e.text=J at h;generalize b8.length=z at h;generalize e.filters.length=t at h;obtain⟨X,a4⟩:∃X,e.keys.length=X:=⟨_,rfl⟩;rw[a4]at h a5;have Z:=gv a4;have bd:=gv a5;clear a4 a5;subst h;have al:Below i.heap.size i (i.alloc (.cells #[.int .i64 G,.int .i64 H,.int .i64 I,.string J,.slice x z y,.slice D X F,.slice m t p] 67)):=(aj _ _).alloc (af _) _;have a2:=gv (gR.keep 12 bi.o (λT _ hg=>al.block T hg));have b0:=gv (bf.o.other al);have K4:=gv (K3.o.trans (.of_below al));clear al bi bf K3;by_cases a3:X=2
    ·have g:Hid (N=(match itemOf { data:=#[83,105,122,101] } 2 e with | none=>none | some Y=>if rZ Y=((n+1:Nat):Int)then(itemOf { data:=#[82,111,111,116] } 9 e).map rZ else none).map λP=>(P,q3)):=by unfold Hid;rw[<-c.o];unfold l7;rw[aA (by rw[Z.o];exact a3)]
     clear c;subst a3;have ba:=gv (C9 a2.o (by rw[Z.o];exact bd.o) bv { data:=#[83,105,122,101] } 2);have bb:Hid (∀ad:World,Below (i.alloc (.cells #[.int .i64 G,.int .i64 H,.int .i64 I,.string J,.slice x z y,.slice D 2 F,.slice m t p] 67)).heap.size (i.alloc (.cells #[.int .i64 G,.int .i64 H,.int .i64 I,.string J,.slice x z y,.slice D 2 F,.slice m t p] 67)) ad->Calls Tryz.prog 198 #[.agg #[.int .i64 G,.int .i64 H,.int .i64 I,.string J,.slice x z y,.slice D 2 F,.slice m t p],.string { data:=#[82,111,111,116] },.int .i64 (9:Nat)] ad (pT (λT=>w2.heap.size<=T) 11 (itemOf { data:=#[82,111,111,116] } 9 e) ad)):=
      λad b=>C9 (gR.keep 12 a2.o (λT _ hg=>b.block T hg)) (by rw[Z.o];exact bd.o) bv { data:=#[82,111,111,116] } 9
     obtain⟨R,hN⟩:∃R,n+1=R:=⟨_,rfl⟩;rw[hN]at g;have bm:(i.alloc (.cells #[.int .i64 G,.int .i64 H,.int .i64 I,.string J,.slice x z y,.slice D 2 F,.slice m t p] 67)).heap[i.heap.size]?=some (.cells #[.int .i64 G,.int .i64 H,.int .i64 I,.string J,.slice x z y,.slice D 2 F,.slice m t p] 67 (0,0)):=jd _ _;have a9:=gv bm;clear bm a2;go_wp2_with fail;refine(oq _).mono ?_;rintro f w' ⟨rfl,v⟩;subst v;go_wp2_with fail;refine ba.o.mono ?_;rintro f w5 ⟨S,U⟩;cases e4:itemOf { data:=#[83,105,122,101] } 2 e with
     |none=>rw[e4]at U g;simp only[]at U;subst U;exact⟨rfl,.none_ g.o (K4.o.trans (.of_below S))⟩
     |some Y =>
      rw[e4]at U g;obtain⟨a8,rfl,bx⟩:=U;simp only[]at g;obtain⟨py,ya,yl,yc,b9,ck,cg,cd,cl,ch,rfl⟩:=gR.form2 bx;have a1:=gv (b0.o.other S);have K5:=gv (K4.o.trans (.of_below S));have HZ:=gv (Fx a1.o HX.o hn);rw[hN]at HZ;have B5:=gv S;clear bx S ba e4;generalize gC (tO Y)=ty;generalize c2:(kO Y:Int)=ky;generalize c3:rZ Y=ny at *;have c0:=Co (.int .i64 ky) (.int .i64 py) (.string ty) (.slice ya yl yc) (.slice b9 ck cg) (.slice cd cl ch) ny;go_wp2_with fail;refine HZ.o.mono ?_;rintro f w6 ⟨rfl,m6,bw⟩;have b6:Below w5.heap.size w5 w6:=by rw[bw];exact tN _ _
      have b1:=gv (a1.o.other b6);have K6:=gv (K5.o.trans (.of_below b6));have B6:=gv (B5.o.trans (b6.mono B5.o.size));clear b6 bw HZ a1 K5 B5 m6;by_cases O:ny=(R:Int)
      ·rw[aA O]at g;have t1:(ny==(R:Int))=true:=by simp[O]
       have bc:=gv (bb.o w6 B6.o);have bn:w6.heap[i.heap.size]?=some (.cells #[.int .i64 G,.int .i64 H,.int .i64 I,.string J,.slice x z y,.slice D 2 F,.slice m t p] 67 (0,0)):=by rw[B6.o.block _ (by simp)];exact a9.o
       obtain⟨d0,d1,d2,d3,d4,d5,d6⟩:=oX bn;clear bn O bb a9;go_wp2_with fail;refine(oq _).mono ?_;rintro f w' ⟨rfl,v⟩;subst v;go_wp2_with fail;refine bc.o.mono ?_;rintro f w7 ⟨b7,V⟩;cases e5:itemOf { data:=#[82,111,111,116] } 9 e with
       |none=>rw[e5]at V g;simp only[]at V;subst V;exact⟨rfl,.none_ g.o (K6.o.trans (.of_below b7))⟩
       |some P=>rw[e5]at V g;obtain⟨a8,rfl,bz⟩:=V;obtain⟨pz,za,zl,zc,cm,cs,cp,co,cw,cr,rfl⟩:=gR.form2 bz;have b2:=gv (b1.o.other b7);have K7:=gv (K6.o.trans (.of_below b7));have Q:Hid (N=some (rZ P,q3)):=g.o;clear bz b7 bc e5 g;generalize gC (tO P)=tz;generalize (kO P:Int)=kz;generalize rZ P=nz at *;have c1:=Co (.int .i64 kz) (.int .i64 pz) (.string tz) (.slice za zl zc) (.slice cm cs cp) (.slice co cw cr) nz;go_wp2;go_ret;exact .some_ Q.o rfl b2.o K7.o
      ·rw[au O]at g;have t1:(ny==(R:Int))=false:=by simp[O]
       clear O;go_wp2_with fail;refine(sn _).mono ?_;rintro f w' ⟨rfl,rfl⟩;exact⟨rfl,.none_ g.o K6.o⟩
    ·have Q:Hid (N=none):=by unfold Hid;rw[<-c.o];unfold l7;rw[au (by rw[Z.o];exact a3)];rfl
     have t1:((X:Int)==2)=false:=by simp;omega
     clear c;go_wp2_with fail;refine(sn _).mono ?_;rintro f w' ⟨rfl,rfl⟩;exact⟨rfl,.none_ Q.o K4.o⟩
end
end Go.Proofs.YtgkljcmjnphpeaaGreatDoor
