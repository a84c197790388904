import Derived.Test.YtgkljcmjnphpeaaGreatDoorK19
set_option linter.unusedVariables false
set_option linter.unusedSimpArgs false
set_option maxHeartbeats 4000000
set_option maxRecDepth 100000
namespace Go.Proofs.YtgkljcmjnphpeaaGreatDoor
open Go.RowKit
theorem mU.fewf:∀{k:Nat} {b:VT k},mU 200000 b->ph b
 |0,_,_=>trivial
 |k+1,b,a=>⟨a.1,a.2.1,by rw[a.2.2.2.2.1];exact aE _,λd c=>mU.fewf (a.2.2.2.2.2 d c)⟩
theorem uN:∀(b:List (Nat × List Nat)) (r:List Nat),lL b=some r->r.length<=b.length
 | [],r,a=>by cases a;exact af _
 |e::b,r,a=>by
  simp only[lL]at a;split at a
  ·cases c:lL b with
   |none=>rw[c]at a;cases a
   |some d=>rw[c]at a;cases a;have:=uN b d c;simp only[ag];omega
  ·cases a
theorem zg{k:Nat}{a g:gz (VT k)}(f:mU 200000 (k:=k+1) a)(d:j_ a=some g):ph (k:=k+1) g:=by
 unfold j_ at d;cases c:jx a with
 |none=>rw[c]at d;cases d
 |some h =>
  rw[c]at d;cases d;have i:(gW (a.keys.zip a.items)).length<=200000:=aD (qb _) (by rw[fV];have e:a.items.length<=200000:=f.1;omega);refine⟨by show((gW (a.keys.zip a.items)).map Prod.snd).length<=_;rw[av];exact i,by show((gW (a.keys.zip a.items)).map Prod.fst).length<=_;rw[av];exact i,?_,?_⟩
  ·show h.length<=200000;unfold jx at c;cases e2:jt a with
   |none=>rw[e2]at c;cases c
   |some m=>rw[e2]at c;have e:=uN m h c;have p:=Fp (mU.few (k:=k+1) f) e2;omega
  ·intro n j;have l:n∈((gW (a.keys.zip a.items)).map Prod.snd):=j;obtain⟨⟨o,b⟩,e,rfl⟩:=cv.1 l;have h3:=(fW (List.mem_filter.1 e).1).2;exact mU.fewf (f.2.2.2.2.2 _ h3)
theorem yO{r f:List Nat}{c:VT 12 × List Nat}(a:lN r=some (c,f))(e:r.length<=200000):ph c.1:=by
 unfold lN at a;split at a;·cases a
 ·next h i e1 =>
  have b:=ou e1 e;split at a
  ·split at a
   ·next j e2 =>
    unfold l6 at a;split at a;·cases a
    ·split at a;·cases a
     ·split at a
      ·split at a;·cases a
       ·split at a
        ·split at a;·cases a
         ·next g d=>cases a;exact zg (k:=11) b d
        ·cases a
      ·cases a
   ·cases a;exact mU.fewf b
  ·cases a;exact mU.fewf b
theorem yQ{e:Nat}{r f:List Nat}{b:VT 12 × List Nat}(a:kC e r=some (b,f))(g:r.length<=200000):ph b.1:=by
 unfold kC at a;split at a;·cases a
 ·next h e1 =>
  split at a;·cases a
  ·next i e2 =>
   split at a;·cases a
   ·next j c =>
    split at a;·cases a
    ·next l k d =>
     split at a;·cases a
     ·cases a;have:=ik e1;have:=ik e2;have:=ik c;exact yO d (by omega)
theorem u9(len:Nat):∀(e b:Nat) (r:List Nat) (c:(List (VT 12 × List Nat) × List Nat) × List Nat),jp len e b r=some c->r.length<=200000->c.1.1.length+c.2.length<=r.length/\∀h∈c.1.1,ph h.1
 |0,b,r,c,a,_=>by cases a
 |e+1,b,r,c,a,k=>by
  rw[jp]at a;split at a;·cases a;exact⟨by simp,λh l=>by cases l⟩
  ·cases d:kC (b+1) r with
   |none=>rw[d]at a;cases a
   |some i =>
    obtain⟨h,g⟩:=i;rw[d]at a;simp only[]at a;have n:=pM d;have j:=yQ d k;have h3:=jo g;cases e2:jp len e (b+1) (gG g)with
    |none=>rw[e2]at a;cases a
    |some m =>
     rw[e2]at a;cases a;have ih:=u9 len e (b+1) (gG g) m e2 (by omega);refine⟨by simp only[ag];omega,λi f=>?_⟩;rcases bT.1 f with rfl | f;·exact j
     ·exact ih.2 i f
theorem oE{c:List Nat}{b:List (VT 12 × List Nat) × Int}(a:iM c=some b)(h:c.length<=200000):b.1.length<=200000/\∀d∈b.1,ph d.1:=by
 unfold iM at a;split at a;·cases a
 ·next r e1 =>
  have f:=(ie e1).1;have g:=jo r;split at a;·cases a
  ·next e e2 =>
   have h3:=u9 _ _ _ _ _ e2 (by omega);split at a;·cases a
   ·split at a;·cases a
    ·split at a;·cases a
     ·cases a;exact⟨by show e.1.1.length<=200000;omega,h3.2⟩
def kU(b:List Nat):Option (List (VT 12) × Int):=match iM b with
 |none=>none
 |some a=>if kn (a.1.map Prod.fst) a.2=true then some (a.1.map Prod.fst,a.2)else none
section
variable{w w':World}
def qA(w:World)(e:Option (List (VT 12) × Int))(a:Ending)(w':World):Prop:=
 Below w.heap.size w w'/\match e with
  |some c=>∃b,a=.returned (.agg #[b,.int .i64 c.2])/\kK (λd=>w.heap.size<=d) 12 w.heap.size c.1 w' b
  |none=>a=gU 4
theorem qA.none_{a:Option (List (VT 12) × Int)}(b:Below w.heap.size w w')(c:a=none):qA w a (gU 4) w':=by subst c;exact⟨b,rfl⟩
theorem qA.some_{c:Option (List (VT 12) × Int)}{a:List (VT 12)}{e:Int}{d:Value}(b:Below w.heap.size w w')(g:c=some (a,e))(h:kK (λf=>w.heap.size<=f) 12 w.heap.size a w' d):qA w c (.returned (.agg #[d,.int .i64 e])) w':=by subst g;exact⟨b,_,rfl,h⟩
theorem gR.kindCell{i:Nat->Prop}{k:Nat}{h:Value}{a:VT k}(l:gR i k w h a):∃(p q:Int) (r:ByteArray) (m:Option Addr) (o n:Nat) (e:Option Addr) (g f:Nat) (b:Option Addr) (d c:Nat),h=.agg #[.int .i64 (kO a:Int),.int .i64 p,.int .i64 q,.string r,.slice m o n,.slice e g f,.slice b d c]:=by obtain⟨v,s,u,t,e,g,f,b,d,c,j⟩:=gR.form2 l;exact⟨_,_,_,_,_,_,_,_,_,_,_,_,j⟩
theorem Kg{i:Option Addr}{j:Nat}{b:List Nat}{co:Int}(he:lD w.heap.size w)(hd:nA w w.heap.size i b)(bm:∀o,o<b.length->nth b o<256)(len:b.length<=200000)(lc:b.length<=j/\j<=9223372036854775807)(ad:∃bd s,i=some ⟨bd,s,none⟩/\bd<w.heap.size)
  (E:∀H,iM b=some H->∀p∈H.1,kO p.1≠8) :
  Calls Tryz.prog 66 #[.slice i b.length j,.int .i64 co] w (qA w (kU b)):=by
 obtain⟨J,hR⟩:∃J,kU b=J:=⟨_,rfl⟩;rw[hR];have g:=gv hR;unfold kU at g;have q:Below w.heap.size w ((w.alloc (.cells #[.slice none 0 0,.int .i64 0] 31)).alloc (.cells #[.slice i b.length j,.int .i64 0,.slice none 0 0,.slice none 0 0,.slice none 0 0] 131)):=((aj _ _).alloc (af _) _).alloc (by simp) _;have cl:((w.alloc (.cells #[.slice none 0 0,.int .i64 0] 31)).alloc (.cells #[.slice i b.length j,.int .i64 0,.slice none 0 0,.slice none 0 0,.slice none 0 0] 131)).heap.size=w.heap.size+2:=by simp
 have a3:((w.alloc (.cells #[.slice none 0 0,.int .i64 0] 31)).alloc (.cells #[.slice i b.length j,.int .i64 0,.slice none 0 0,.slice none 0 0,.slice none 0 0] 131)).heap[w.heap.size]?=some (.cells #[.slice none 0 0,.int .i64 0] 31 (0,0)):=l9 _ (jd _ _);have a5:((w.alloc (.cells #[.slice none 0 0,.int .i64 0] 31)).alloc (.cells #[.slice i b.length j,.int .i64 0,.slice none 0 0,.slice none 0 0,.slice none 0 0] 131)).heap[w.heap.size+1]?=some (.cells #[.slice i b.length j,.int .i64 0,.slice none 0 0,.slice none 0 0,.slice none 0 0] 131 (0,0)):=by have:=jd (w.alloc (.cells #[.slice none 0 0,.int .i64 0] 31)) (.cells #[.slice i b.length j,.int .i64 0,.slice none 0 0,.slice none 0 0,.slice none 0 0] 131);rw[bM]at this;exact this
 obtain⟨A,a1⟩:∃A,(w.alloc (.cells #[.slice none 0 0,.int .i64 0] 31)).alloc (.cells #[.slice i b.length j,.int .i64 0,.slice none 0 0,.slice none 0 0,.slice none 0 0] 131)=A:=⟨_,rfl⟩;rw[a1]at q cl a3 a5;have bv:Sc w.heap.size (w.heap.size+1) i j b (.slice none 0 0) (.slice none 0 0) (.slice none 0 0) A b:=
  ⟨dV _,by rw[a5,dU];rfl,hd.other (λa r=>q.block a r),bm,len,lc,af _,by rw[dU];rfl,ad⟩
 have bq:lD w.heap.size A:=he.only (bs:=w.heap.size+1) (dV _) (af _) (.of_below q);have I:=gv (Ff bq bv);have cp:=gv q;have bc:=gv a1;have W:=gv a3;have a8:=gv (λH (hz:iM b=some H)=>oE hz len);have a9:=gv E;have a7:Hid (∀ac:World,gQ (w.heap.size+1) A ac->Below w.heap.size w ac):=λac s=>⟨s.os.trans q.os,s.tape.trans q.tape,s.output.trans q.output,by have:=s.size;omega,λa r=>(s.block a (by omega) (by omega)).trans (q.block a r)⟩;clear hR hd bm lc ad E he bv bq q a3 a5 a1;generalize b9:b.length=dl at *;clear b9 len;cases e1:iM b with
 |none=>rw[e1]at I g;have V:Hid (J=none):=g.o.symm;clear g;go_enter Tryz.func66,Tryz.ntmps66;go_wp2_with fail;rw[bc.o];refine I.o.mono ?_;rintro K f ⟨rfl,M⟩;exact⟨rfl,.none_ (a7.o _ M) V.o⟩
 |some H =>
  obtain⟨G,e⟩:=H;have R:=a8.o _ e1;have E:=a9.o _ e1;rw[e1]at I g;simp only[]at g R E;clear e1 a8 a9;go_enter Tryz.func66,Tryz.ntmps66;go_wp2_with fail;rw[bc.o];refine I.o.mono ?_;rintro K f ⟨ov,pv,lv,vs,ps,cs,cw,rfl,h3⟩;have H3:=gv h3;have al:=a7.o _ h3.only;obtain⟨l,m,a0⟩:=i_ h3.oo;have bx:vs.length=(G.map Prod.fst).length:=h3.len;rw[bx]at a0;obtain⟨h,S⟩:∃h,(G.map Prod.fst).length=h:=⟨_,rfl⟩;rw[S]at a0;have ck:h<=200000:=by rw[<-S,av];exact R.1
  have ba:Hid (kK (λa=>A.heap.size<=a) 12 A.heap.size (G.map Prod.fst) f ov):=⟨vs,h3.oo,h3.len,λo p d n k=>gR.mono 12 (h3.ch o p d n k) (λa r _=>r.1)⟩;have b3:Hid (∀d∈G.map Prod.fst,kO d≠8):=λd k=>by obtain⟨p,n,rfl⟩:=cv.1 k;exact E p n
  have b1:Hid (∀d∈G.map Prod.fst,ph d):=λd k=>by obtain⟨p,n,rfl⟩:=cv.1 k;exact R.2 p n
  have bz:f.heap[w.heap.size]?=some (.cells #[.slice none 0 0,.int .i64 0] 31 (0,0)):=by rw[h3.only.block _ (ae W.o) (by omega)];exact W.o
  have cr:=h3.only.size;subst a0;generalize G.map Prod.fst=Z at *;have U:=gv S;have b4:Below f.heap.size f (f.alloc (.cells #[.slice l h m,.int .i64 e] 31)):=(aj _ _).alloc (af _) _;have T:(f.alloc (.cells #[.slice l h m,.int .i64 e] 31)).heap[f.heap.size]?=some (.cells #[.slice l h m,.int .i64 e] 31 (0,0)):=jd _ _;have a4:(f.alloc (.cells #[.slice l h m,.int .i64 e] 31)).heap[w.heap.size]?=some (.cells #[.slice none 0 0,.int .i64 0] 31 (0,0)):=l9 _ bz;have B:Hid (Below w.heap.size w (f.alloc (.cells #[.slice l h m,.int .i64 e] 31))):=al.trans (b4.mono al.size);have P:=gv (ba.o.keep b4);have C:=gv (uQ (root:=e) P.o.base b1.o (by rw[U.o];exact ck));obtain⟨w4,a2⟩:∃w4,f.alloc (.cells #[.slice l h m,.int .i64 e] 31)=w4:=⟨_,rfl⟩;rw[a2]at T a4 B P C;have bf:=gv a2;have Q:=gv T;have X:=gv a4;have bt:f.heap.size<w4.heap.size:=ae T;clear h3 H3 al bx S R E bz I ba b4 T a4 a2 W;cases e2:kn Z e with
  |false =>
   rw[e2]at C g;have V:Hid (J=none):=g.o.symm;clear g;have d0:=mb Q.o;have d1:=oB Q.o;go_wp2_with fail;try rw[bf.o]
   refine C.o.mono ?_;rintro K N ⟨rfl,t⟩;have O:=gv (B.o.trans (t.mono B.o.size));clear t;go_wp2_with fail;refine(sn _).mono ?_;rintro K w' ⟨rfl,z⟩;have z:=z.symm;subst z;exact⟨rfl,.none_ O.o V.o⟩
  |true =>
   rw[e2]at C g;have b6:Hid (J=some (Z,e)):=g.o.symm;clear g;go_wp2_with fail;try rw[bf.o]
   refine C.o.mono ?_;rintro K N ⟨rfl,t⟩;have O:=gv (B.o.trans (t.mono B.o.size));have bb:=gv (P.o.keep t);have Y:Hid (N.heap[f.heap.size]?=some (.cells #[.slice l h m,.int .i64 e] 31 (0,0))):=by unfold Hid;rw[t.block _ bt];exact Q.o
   have bi:=gv ((t.block _ (ae X.o)).trans X.o);have cm:f.heap.size<N.heap.size:=ae Y.o;clear t C B P Q X bt;go_wp2_with fail;refine(oq _).mono ?_;rintro K w' ⟨rfl,z⟩;have z:=z.symm;subst z;have d0:=mb Y.o;go_wp2;go_loopw [21] (λo wr=>∃(c:Nat),c<=h/\o=.int .i64 c/\Hid (Below N.heap.size N wr)) (λo _=>h-(intOf o).toNat)
   case atStart=>exact⟨0,aE _,rfl,aj _ _⟩
   case round =>
    obtain⟨c,L,rfl,x⟩:=hrel;rcases bN L with L | L
    ·subst L;have a6:wr.heap[f.heap.size]?=some (.cells #[.slice l c m,.int .i64 e] 31 (0,0)):=by rw[x.o.block _ cm];exact Y.o
     have F:=(x.o.block _ (ae bi.o)).trans bi.o;have v0:=mb a6;have v1:=oB a6;have r0:=mb F;have r1:=oB F;have f0:=ix 0 F;have f1:=ix 1 F;have b7:=gv F;clear a6 F;go_wp2;have hf:=vA b7.o (.slice l c m) (.int .i64 e);have y:gQ w.heap.size wr ((wr.setCell ⟨w.heap.size,0,none⟩ (.slice l c m)).setCell ⟨w.heap.size,1,none⟩ (.int .i64 e)):=((gQ.refl _ wr).setCell 0 _).setCell 1 _;refine aF (v:=.agg #[.slice l c m,.int .i64 e]) ?_ rfl ?_;·exact aJ Tryz.results66 _ _ w.heap.size 31 _ _ _ rfl hf f7 rfl (by kernel_rfl)
     have D:Below w.heap.size w wr:=O.o.trans (x.o.mono O.o.size);refine .some_ ⟨y.os.trans D.os,y.tape.trans D.tape,y.output.trans D.output,aD D.size y.size,λa r=>(y.block a (by have:=D.size;omega) (by omega)).trans (D.block a r)⟩ b6.o ?_;obtain⟨ys,k1,k2,M⟩:=bb.o.keep x.o;refine⟨ys,?_,k2,λo p d n k=>gR.mono 12 (gR.keep 12 (M o p d n k) (λa r cd=>y.block a cd (by omega))) (λa r _=>by omega)⟩;obtain⟨j1,j2⟩:=k1;refine⟨j1,?_⟩;rcases j2 with j2 | ⟨a,bn,b8,e1,e2,hh,hc⟩;·exact Or.inl j2
     ·exact Or.inr ⟨a,bn,b8,e1,by omega,by rw[y.block a (ae hh) (by omega)];exact hh,hc⟩
    ·obtain⟨d,k⟩:∃d,Z[c]?=some d:=⟨_,ai (by rw[U.o];exact L)⟩;obtain⟨a,bn,p,br,_,_,n,u⟩:=(bb.o.keep x.o).at k;rw[U.o]at br;cases br;have cg:=b3.o d (cB k);obtain⟨k1,k2,M,ja,jl,jc,ka,kl,kc,fa,fl,fc,rfl⟩:=gR.kindCell n;have e0:wr.cell? ⟨a,c*7,none⟩=some (.int .i64 (kO d:Int)):=u 0 _ rfl;have e1:wr.cell? ⟨a,c*7+1,none⟩=some (.int .i64 k1):=u 1 _ rfl;have e2:wr.cell? ⟨a,c*7+2,none⟩=some (.int .i64 k2):=u 2 _ rfl;have e3:wr.cell? ⟨a,c*7+3,none⟩=some (.string M):=u 3 _ rfl;have e4:wr.cell? ⟨a,c*7+4,none⟩=some (.slice ja jl jc):=u 4 _ rfl;have e5:wr.cell? ⟨a,c*7+5,none⟩=some (.slice ka kl kc):=u 5 _ rfl;have e6:wr.cell? ⟨a,c*7+6,none⟩=some (.slice fa fl fc):=u 6 _ rfl;have t8:((kO d:Int)==8)=false:=by simp;omega
     have b0:=gv (λs:Obj=>x.o.alloc x.o.size s);generalize (kO d:Int)=ky at *;clear n u k cg;go_wp2;go_roundw
     case rel=>exact⟨c+1,by omega,by first | rfl | (congr 1),b0.o _⟩
     case measure=>simp[intOf];omega
end
section
variable{w:World}
theorem Kt(a:Int)(w:World):(Instr.typeAssert (.iface 58 (.int .i64 a)) 20 58 true).run Tryz.prog w=.ok (.tuple #[.int .i64 a,.bool true]) w:=by kernel_rfl
theorem KB(a k:Int)(w:World):Calls Tryz.prog 65 #[.iface 58 (.int .i64 a),.int .i64 k] w λb c=>b=.returned (.int .i64 a)/\c=w:=by have d:=Kt a;go_enter Tryz.func65,Tryz.ntmps65;go_wp2;go_ret;exact⟨rfl,rfl⟩
theorem Ke(d e:Addr)(w:World) :
  CallsD Tryz.prog 64 #[.pointer (some d),.pointer (some e)] .returning w λb f g=>b=.returned (.tuple #[])/\f=.returning/\g=w:=by
 refine callsD_of_wpS Tryz.func64 rfl λa h c=>?_;apply wpS_seq;apply wpS_region;simp[wpOpsS,go_sem,recoverD,c,Tryz.ntmps64,Exit.thenS,Array.replicate];refine wpS_of_wp ?_;go_wp2;cases a
 simp_all [bodyPostS,results,Tryz.results64]
theorem rp(b:Nat)(a:Int)(d:List PanicEntry)(w:World)(h i j:Value)(p:w.cell? ⟨b,0,none⟩=some h)(q:w.cell? ⟨b,1,none⟩=some i)(r:w.cell? ⟨b+1,0,none⟩=some j)(m:w.frozen? ⟨b,0,none⟩=false)(n:w.frozen? ⟨b,1,none⟩=false)(o:w.frozen? ⟨b+1,0,none⟩=false) :
  CallsD Tryz.prog 64 #[.pointer (some ⟨b,0,none⟩),.pointer (some ⟨b+1,0,none⟩)] (.panicking ({ v:=.iface 58 (.int .i64 a),recovered:=false }::d)) w λc g e=>c=.returned (.tuple #[])/\g=.panicking ({ v:=.iface 58 (.int .i64 a),recovered:=true }::d)/\e=((w.setCell ⟨b,0,none⟩ (.slice none 0 0)).setCell ⟨b,1,none⟩ (.int .i64 0)).setCell ⟨b+1,0,none⟩ (.int .i64 a):=by
 refine callsD_of_wpS Tryz.func64 rfl λl k f=>?_;apply wpS_seq;apply wpS_region;simp[wpOpsS,go_sem,recoverD,f,Tryz.ntmps64,Exit.thenS,Array.replicate];refine wpS_of_wp ?_;go_wp2_with (go_at_call 65;refine(KB _ _ _).mono ?_;rintro c e ⟨rfl,rfl⟩);simp[bodyPostS,results,Tryz.results64]
def Cz(w:World)(f:Option (List (VT 12) × Int))(a:Ending)(c:World):Prop:=
 Below w.heap.size w c/\match f with
  |some d=>∃b,a=.returned (.tuple #[.agg #[b,.int .i64 d.2],.int .i64 0])/\kK (λe=>w.heap.size<=e) 12 w.heap.size d.1 c b
  |none=>a=.returned (.tuple #[.agg #[.slice none 0 0,.int .i64 0],.int .i64 4])
theorem Gk(t:Option Addr)(d l:Nat)(p:Nat)(hm:p<=1000000)(Z:l<=200000)(i:List (VT 12))(q:Int)
  (h:∀j:World,Below w.heap.size w j->Calls Tryz.prog 66 #[.slice t l d,.int .i64 p] j (qA j (some (i,q)))) :
  Calls Tryz.prog 25 #[.slice t l d,.int .i64 p] w (Cz w (some (i,q))):=by
 have ac:∀(v:Fn) (first d:Array Value) (w:World),(Instr.makeFunc v first d).run Tryz.prog w=.ok (.func v first d) w:=λ_ _ _ _=>rfl;have k:Below w.heap.size w ((w.alloc (.cells #[.slice none 0 0,.int .i64 0] 31)).alloc (.cells #[.int .i64 0] 58)):=((aj _ _).alloc (af _) _).alloc (by simp) _;have z:=gv (h _ k);have y:=gv k;clear h k;go_enter_defers Tryz.func25,Tryz.ntmps25;go_wp2_with (go_at_call 63;refine(pG _ _ _ _ (by omega) (by omega)).mono ?_;rintro u w' ⟨rfl,rfl⟩);refine z.o.mono ?_;rintro u e ⟨b,ov,rfl,c⟩;obtain⟨U,V,rfl⟩:=c.len;have g:e.heap[w.heap.size]?=some (.cells #[.slice none 0 0,.int .i64 0] 31 (0,0)):=by rw[b.block _ (by simp;omega)];exact l9 _ (jd _ _)
 have r:e.heap[w.heap.size+1]?=some (.cells #[.int .i64 0] 58 (0,0)):=by rw[b.block _ (by simp)];have:=jd (w.alloc (.cells #[.slice none 0 0,.int .i64 0] 31)) (.cells #[.int .i64 0] 58);rw[bM]at this;exact this
 have D:=mb g;have E:=oB g;have F:=mb r;have H:=ix 0 g;have I:=ix 1 g;have J:=ix 0 r;have A:=gv c;have s:=gv b;clear c b g r;generalize i.length=T at *;go_wp2;refine leaves_cons (f:= 64) (args:=#[.pointer (some ⟨w.heap.size,0,none⟩),.pointer (some ⟨w.heap.size+1,0,none⟩)]) (by simp) (by simp[go_sem]) ?_;refine(Ke ⟨w.heap.size,0,none⟩ ⟨w.heap.size+1,0,none⟩ _).mono ?_;rintro u u' ad ⟨rfl,rfl,rfl⟩;simp[Leaves,settle,results,Tryz.results25,go_sem,D,E,F,H,I,J];have L:((w.alloc (.cells #[.slice none 0 0,.int .i64 0] 31)).alloc (.cells #[.int .i64 0] 58)).heap.size=w.heap.size+2:=by simp
 have b:=s.o;have c:=A.o;rw[L]at b c;have B:Below w.heap.size w e:=y.o.trans (s.o.mono (by omega));have x:∀a,w.heap.size+2<=a->(((e.setCell ⟨w.heap.size,0,none⟩ (.slice U T V)).setCell ⟨w.heap.size,1,none⟩ (.int .i64 q)).setCell ⟨w.heap.size+1,0,none⟩ (.int .i64 0)).heap[a]?=e.heap[a]?:=λa m=>by rw[jL _ (by show a≠w.heap.size+1;omega),jL _ (by show a≠w.heap.size;omega),jL _ (by show a≠w.heap.size;omega)]
 refine⟨((B.setCell (by simp) _).setCell (by simp) _).setCell (by simp) _,_,rfl,?_⟩;obtain⟨Y,Q,R,S⟩:=c;refine⟨Y,?_,R,λO W X M N=>gR.mono 12 (gR.keep 12 (S O W X M N) (λa m _=>x a m)) (λa m _=>by omega)⟩;obtain⟨P,n⟩:=Q;refine⟨P,?_⟩;rcases n with n | ⟨a,C,G,e1,e2,K,h⟩;·exact Or.inl n
 ·exact Or.inr ⟨a,C,G,e1,by omega,by rw[x a e2];exact K,h⟩
theorem Kk(j:Option Addr)(a e:Nat)(h:Nat)(A:h<=1000000)(z:e<=200000)
  (t:∀c:World,Below w.heap.size w c->Calls Tryz.prog 66 #[.slice j e a,.int .i64 h] c (qA c none)) :
  Calls Tryz.prog 25 #[.slice j e a,.int .i64 h] w (Cz w none):=by
 have B:∀(s:Fn) (first a:Array Value) (w:World),(Instr.makeFunc s first a).run Tryz.prog w=.ok (.func s first a) w:=λ_ _ _ _=>rfl;have d:Below w.heap.size w ((w.alloc (.cells #[.slice none 0 0,.int .i64 0] 31)).alloc (.cells #[.int .i64 0] 58)):=((aj _ _).alloc (af _) _).alloc (by simp) _;have x:=gv (t _ d);have v:=gv d;clear t d;go_enter_defers Tryz.func25,Tryz.ntmps25;go_wp2_with (go_at_call 63;refine(pG _ _ _ _ (by omega) (by omega)).mono ?_;rintro n D ⟨rfl,rfl⟩);refine x.o.mono ?_;rintro n i ⟨g,rfl⟩;have b:i.heap[w.heap.size]?=some (.cells #[.slice none 0 0,.int .i64 0] 31 (0,0)):=by rw[g.block _ (by simp;omega)];exact l9 _ (jd _ _)
 have u:i.heap[w.heap.size+1]?=some (.cells #[.int .i64 0] 58 (0,0)):=by rw[g.block _ (by simp)];have:=jd (w.alloc (.cells #[.slice none 0 0,.int .i64 0] 31)) (.cells #[.int .i64 0] 58);rw[bM]at this;exact this
 have k:=mb b;have l:=oB b;have m:=mb u;have p:=ix 0 b;have q:=ix 1 b;have r:=ix 0 u;refine leaves_cons (f:= 64) (args:=#[.pointer (some ⟨w.heap.size,0,none⟩),.pointer (some ⟨w.heap.size+1,0,none⟩)]) (by simp) (by simp[go_sem]) ?_;refine(rp w.heap.size 4 [] _ _ _ _ k l m p q r).mono ?_;rintro n C E ⟨rfl,rfl,rfl⟩;simp[Leaves,settle,results,Tryz.results25,go_sem,k,l,m,p,q,r];have y:Below w.heap.size w i:=v.o.trans (g.mono (by simp;omega));exact⟨((y.setCell (by simp) _).setCell (by simp) _).setCell (by simp) _,rfl⟩
theorem Kr{d:Option Addr}{f:Nat}{a:List Nat}{most:Nat}(n:most<=1000000)(t:lD w.heap.size w)(s:nA w w.heap.size d a)(p:∀l,l<a.length->nth a l<256)(len:a.length<=200000)(y:a.length<=f/\f<=9223372036854775807)(o:∃e h,d=some ⟨e,h,none⟩/\e<w.heap.size)
  (x:∀i,iM a=some i->∀z∈i.1,kO z.1≠8) :
  Calls Tryz.prog 25 #[.slice d a.length f,.int .i64 most] w (Cz w (kU a)):=by
 have k:∀g:World,Below w.heap.size w g->Calls Tryz.prog 66 #[.slice d a.length f,.int .i64 most] g (qA g (kU a)):=λg b=>by
  have c:lD w.heap.size g:=t.only (bs:=w.heap.size) (af _) (af _) (.of_below b);have j:=b.size;refine Kg ⟨⟨c.err.syn,c.err.rng,c.err.mx,aC c.err.ls j,aC c.err.lr j,aC c.err.lm j⟩,c.pow,aC c.lp j⟩ (λl v=>?_) p len y ?_ x
  ·obtain⟨e,h,e1,e2,q⟩:=s.other (λr u=>b.block r u) l v;exact⟨e,h,e1,by omega,q⟩
  ·obtain⟨e,h,e1,e2⟩:=o;exact⟨e,h,e1,by omega⟩
 cases m:kU a with
 |none=>rw[m]at k;exact Kk d f a.length most n len k
 |some i=>rw[m]at k;exact Gk d f a.length most n len i.1 i.2 k
end
end Go.Proofs.YtgkljcmjnphpeaaGreatDoor
