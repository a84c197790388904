import Derived.Test.YtgkljcmjnphpeaaGreatDoorK45
set_option linter.unusedVariables false
set_option linter.unusedSimpArgs false
set_option maxHeartbeats 4000000
set_option maxRecDepth 100000
namespace Go.Proofs.YtgkljcmjnphpeaaGreatDoor
open Go.RowKit
section
variable{w a:World}
def FR(g:Nat->List Nat->List Nat->Prop)(e:Nat)(d:List (VT (e+3)))(i:Int)(w:World)(h:Ending)(a:World):Prop:=
 ∃f b c,h=.returned f/\a.ownsRow w.heap.size 5 1 f b.length (l_ b)/\Below w.heap.size w a/\lR g e d c/\((c.length=d.length/\b=jf c i)\/(200000<b.length/\b=iq++gK c 1))
structure ED(EE:Nat->List Nat->List Nat->Prop)(j:Nat)(Ys:List (VT (j+3)))(w w0:World)(ms:List (List Nat))(ov pv:Value)(W:World):Prop where
 ow:(ms=[]/\n8 (w.heap.size+1) (w.heap.size+2) (w.heap.size+1) W ov pv iq [])\/(ms≠[]/\iR (w.heap.size+1) (w.heap.size+2) W ov pv (iq++gK ms 1) (gV ms 9 1))
 bel:Below (w.heap.size+1) w0 W
 bod:lR EE j Ys ms
 sm:(iq++gK ms 1).length<=200000
theorem whead_obj(b:List (List Nat))(c:List Nat):iq++gK (b++[c]) 1=(iq++gK b 1)++(wohead ((b.length:Int)+1)++(c++[10,101,110,100,111,98,106,10])):=by
 rw[pQ,jJ,<-ak];have:((1+b.length:Nat):Int)=(b.length:Int)+1:=by omega
 rw[this]
theorem whead_place(b:List (List Nat))(c:List Nat):gV (b++[c]) 9 1=gV b 9 1++[(iq++gK b 1).length]:=by rw[oW,ab];rfl
theorem wlines_len:∀(b:List Nat),(∀c∈b,c<10^10)->(b.flatMap jv).length=20*b.length
 | [],_=>rfl
 |c::b,d=>by rw[cH,ab,qj c (d c (aQ ..)),wlines_len b (λf e=>d f (aV _ e)),ag];omega
theorem LI{f j d g h:Nat}{t:Nat->List Nat->List Nat->Prop}(G:rC t d)(H:d<=1000000){c:World}{C r:Value}{i pl:List Nat}(z:lD j c)(y:j<=g)(x:iR g h c C r i pl){u:Nat->Prop}{b:gz (VT (f+2))}{s:Value}(B:gR u (f+3) c s b)(o:qy d f b)(J:i.length<=300000) :
  Calls Tryz.prog (bif ((b.kind:Int)==8)then 131 else 132) #[.pointer (some ⟨h,0,none⟩),s] c λk a=>∃q,BO t f b q/\lV g h c r i pl q k a:=by
 have I:=o.len;by_cases e:b.kind=8
 ·obtain⟨D,A,m,n⟩:=o.str e;have m:2^D.length*(b.text.length+36)<=2*d:=m;have n:b.text.length<=d:=n;have l:((b.kind:Int)==8)=true:=by rw[e];rfl
  rw[l];refine(LS G H z y x B A m n (by omega)).mono ?_;rintro k a ⟨q,⟨v,E,F,h3,rfl⟩,p⟩;refine⟨_,Or.inl ⟨e,v,E,?_,h3,rfl⟩,p⟩;show v.length+36<=2^b.filters.length*_;rw[A.fil,av];exact F
 ·have l:((b.kind:Int)==8)=false:=by
   have:¬ ((b.kind:Int)=8):=by omega
   simpa using this
  rw[l];refine(BA (f+3) g h j c C r i pl u s b z y x B (o.val e) (by omega)).mono ?_;intro k a p;exact⟨_,Or.inr ⟨e,rfl⟩,p⟩
theorem Ez{j R U:Nat}{t:Nat->List Nat->List Nat->Prop}(hE:rC t U)(bq:U<=1000000)(he:lD R w)(i:R<=w.heap.size){c3:Nat->Prop}{h:List (VT (j+3))}{b5:Value}{root:Int}(hO:kK c3 (j+3) 0 h w b5)(da:1<=h.length)(hn:h.length<=100000)(b3:∀c∈h,qy U j c)(hr : -9223372036854775808<=root/\root<=9223372036854775807) :
  Calls Tryz.prog 62 #[.agg #[b5,.int .i64 root]] w (FR t j h root w):=by
 obtain⟨oa,oc,rfl⟩:=hO.len;have HO:Hid (kK (λf=>f<w.heap.size) (j+3) 0 h w _):=hO.mono (λf _ a2=>a2);have cp:=gv b3;have HE:=gv hE;have K:=gv he;have a0:=gv hr;obtain⟨u,hN⟩:∃u,h.length=u:=⟨_,rfl⟩;have HN:=gv hN;rw[hN]at hn da ⊢;rw[hN]at HO;have xa:=jd w (.cells #[.slice oa u oc,.int .i64 root] 31);have xb:=jd (w.alloc (.cells #[.slice oa u oc,.int .i64 root] 31)) (.cells #[.int .u8 37,.int .u8 80,.int .u8 68,.int .u8 70,.int .u8 45,.int .u8 49,.int .u8 46,.int .u8 52,.int .u8 10] 5);rw[bM]at xb;have bb:Below w.heap.size w ((w.alloc (.cells #[.slice oa u oc,.int .i64 root] 31)).alloc (.cells #[.int .u8 37,.int .u8 80,.int .u8 68,.int .u8 70,.int .u8 45,.int .u8 49,.int .u8 46,.int .u8 52,.int .u8 10] 5)):=((aj _ _).alloc (af _) _).alloc (by simp) _;obtain⟨I,c8,⟨fm,b2⟩,G,N⟩:=Hy (n:=9) (c:=9) xb;have b9:=(G.block w.heap.size (by simp;omega) (by omega)).trans (l9 _ xa);have bC:Below w.heap.size w I:=bb.trans ⟨G.os,G.tape,G.output,G.size,λk hk=>G.block k (by simp;omega) (by omega)⟩;simp only[bM]at N;have N:I.heap.size=w.heap.size+2:=N;clear xa xb bb G hO b3 hE he hN hr;have xD:=jd I (.cells #[.slice (some ⟨w.heap.size+1,0,none⟩) 9 9,.slice none 0 0] 122);rw[N]at xD;have HM:Hid (n8 (w.heap.size+1) (w.heap.size+2) (w.heap.size+1) (I.alloc (.cells #[.slice (some ⟨w.heap.size+1,0,none⟩) 9 9,.slice none 0 0] 122)) (.slice (some ⟨w.heap.size+1,0,none⟩) 9 9) (.slice none 0 0) iq []):=
  ⟨by omega,rfl,xD,⟨fm,l9 _ b2⟩,af _,bk _ _ _ _⟩
 have a7:=l9 (.cells #[.slice (some ⟨w.heap.size+1,0,none⟩) 9 9,.slice none 0 0] 122) b9;have bD:Below w.heap.size w (I.alloc (.cells #[.slice (some ⟨w.heap.size+1,0,none⟩) 9 9,.slice none 0 0] 122)):=bC.alloc (by omega) _;have cw:=gv a7;have cg:=gv bD;have c7:=mb a7;clear b9 bC xD a7 bD b2;go_enter Tryz.func62,Tryz.ntmps62;go_wp2_with fail;generalize c5:I.alloc (.cells #[.slice (some ⟨w.heap.size+1,0,none⟩) 9 9,.slice none 0 0] 122)=V at *;have ck:Hid (ED t j h w V [] (.slice (some ⟨w.heap.size+1,0,none⟩) 9 9) (.slice none 0 0) V):=⟨Or.inl ⟨rfl,HM.o⟩,aj _ _,⟨aE _,λea dk c O _=>by simp at O⟩,by simp[iq,gK]⟩;clear c8 c5 N HM c7;go_loopw [14] (λiv wr=>∃(e:Nat) (d:List (List Nat)) (ov pv:Value),e<=u/\iv=.int .i64 (e:Int)/\d.length=e/\Hid (ED t j h w V d ov pv wr)) (λiv _=>u-(intOf iv).toNat)
 case atStart=>exact⟨0,[],_,_,aE _,rfl,rfl,ck⟩
 case round =>
  obtain⟨e,d,ov,pv,F,rfl,s,m⟩:=hrel;have r:Hid (Below w.heap.size w wr):=cg.o.trans (m.o.bel.mono (dV _));have ad:wr.heap[w.heap.size]?=some (.cells #[.slice oa u oc,.int .i64 root] 31 (0,0)):=(m.o.bel.block _ (Nat.lt_succ_self _)).trans cw.o;have bz:w.heap.size+1<=wr.heap.size:=ae ad;rcases bN F with F | F
  ·subst F;have D:iR (w.heap.size+1) (w.heap.size+2) wr ov pv (iq++gK d 1) (gV d 9 1):=by
    rcases m.o.ow with⟨Y,_⟩ | ⟨_,a2⟩;·rw[Y]at s;simp at s;omega
    ·exact a2
   have a5:=m.o.sm;have M:(gV d 9 1).length=e:=by rw[kf,s]
   have a4:∀a6∈gV d 9 1,a6<10^10:=λa6 hp=>by
    have Z:=oy d 9 1 a6 hp;have h2:(iq++gK d 1).length=9+(gK d 1).length:=by rw[ab];rfl
    omega
   obtain⟨eb,ei,db⟩:=i_ D.oo;subst db;have E:=D.blk;obtain⟨T,ac⟩:∃T,T=(iq++gK d 1).length:=⟨_,rfl⟩;rw[<-ac]at E;have c0:=mb E;have dn:T<=200000:=by rw[ac];exact a5
   have L:lD R wr:=K.o.low (r.o.mono i);have HC:=gv (Ex L (fw i) D a4 (by rw[M];omega));have dl:=gv D;have al:=gv ac;have S:=gv M;have cm:=gv s;have c2:=gv ad;have cr:=gv a4;clear D a5 M a4 E ac L ad s;go_wp2_with fail;refine HC.o.mono ?_;rintro q w6 ⟨rfl,el,h6,P⟩;have b4:=P.block w.heap.size _ (by simp) c2.o (Or.inr λbn fz q=>by cases q);have c1:=oB b4;have K6:=gv P;have b6:Below w.heap.size w w6:=r.o.trans ((gD.below P.togD bz (λf l=>by simp at l;subst l;omega)).mono (dV _));have c4:(j7 (gV d 9 1)).length<=100+20*e:=by
    unfold j7;rw[ab];have Z:((gV d 9 1).flatMap jv).length=20*e:=by rw[wlines_len _ cr.o,S.o]
    have h2:=jg (n:=((gV d 9 1).length:Int)+1) (by omega) (by rw[S.o];omega);unfold jR;simp only[ab,ag,aw];omega
   have hT:=gv (Md (root:=root) (K.o.low (b6.mono i)) (fw i) h6 (by rw[S.o];omega) a0.o (by rw[ab,<-al.o];omega));have B6:=gv b6;have b1:((iq++gK d 1)++j7 (gV d 9 1)).length<=300000+20*e:=by rw[ab,<-al.o];omega
   have cl:=gv b1;have dr:=P.size;clear h6 P b4 b6 HC c4 b1 c0;go_wp2_with fail;refine hT.o.mono ?_;rintro q w7 ⟨rfl,em,h7,k7⟩;have W:Below w.heap.size w w7:=B6.o.trans ((gD.below k7.togD (by omega) (λf l=>by simp at l;subst l;omega)).mono (dV _));have bd:=gv (Af (K.o.low (W.mono i)) (aD i W.size) (T:Int) (by omega) (by omega));have H7:=gv h7;have B7:=gv W;clear h7 k7 W hT c1;go_wp2_with fail;refine bd.o.mono ?_;rintro q w8 ⟨a1,rfl,hS,X⟩;have dw:a1.size<=20:=by rw[<-nM,hS];exact jg (by omega) (by omega)
   have HP:=gv (vT (H7.o.below X) { data:=#[115,116,97,114,116,120,114,101,102,10] } a1 { data:=#[10,37,37,69,79,70,10] } (by
    show _+(10+(_+7))<=_;have Z:=cl.o;have h2:(wtrail (((gV d 9 1).length:Int)+1) root).length<=200:=by have h3:=jg (n:=((gV d 9 1).length:Int)+1) (by omega) (by rw[S.o];omega);have h4:=jg (n:=root) a0.o.1 a0.o.2;unfold wtrail;simp only[ab,ag,aw];omega
    rw[ab];omega))
   have B8:=gv (B7.o.trans (X.mono B7.o.size));have cs:=gv hS;have dv:=X.size;have ds:=(H7.o).bw;clear X hS bd H7;go_wp2_with fail;refine HP.o.mono ?_;rintro q w9 ⟨rfl,en,h9,k9⟩;obtain⟨ec,ej,dd⟩:=i_ h9.oo;subst dd;have bv:=h9.blk;generalize br:(iq++gK d 1++j7 (gV d 9 1)++wtrail (((gV d 9 1).length:Int)+1) root)++(bl { data:=#[115,116,97,114,116,120,114,101,102,10] }++(bl a1++bl { data:=#[10,37,37,69,79,70,10] }))=O9 at *;have c9:=mb bv;have H9:=gv h9;have B9:=gv (B8.o.trans ((gD.below k9.togD (by omega) (λf l=>by simp at l;subst l;omega)).mono (dV _)));have co:=gv br;clear h9 k9 bv br HP;go_wp2;go_ret;refine⟨_,O9,d,rfl,zX H9.o.oo (dV _),B9.o,m.o.bod,Or.inl ⟨by rw[cm.o,HN.o],?_⟩⟩;rw[<-co.o];unfold jf;rw[cs.o,al.o,kf];simp only[ak];rfl
  ·obtain⟨c,hy⟩:∃c,h[e]?=some c:=⟨_,ai (by rw[HN.o];exact F)⟩;change gz (VT (j+2))at c;obtain⟨f,bn,dk,b0,_,_,O,y⟩:=(HO.o.keep r.o).at hy;rw[HN.o]at b0;cases b0;obtain⟨z,A,B,C,v,x,dg,_⟩:=gR.split (k:=j+2) O;subst dg;have d0:wr.cell? ⟨f,e*7,none⟩=some (.int .i64 (c.kind:Int)):=y 0 _ rfl;have d1:wr.cell? ⟨f,e*7+1,none⟩=some (.int .i64 c.n):=y 1 _ rfl;have d2:wr.cell? ⟨f,e*7+2,none⟩=some (.int .i64 (c.places:Int)):=y 2 _ rfl;have d3:wr.cell? ⟨f,e*7+3,none⟩=some (.string (gC c.text)):=y 3 _ rfl;have d4:wr.cell? ⟨f,e*7+4,none⟩=some (.slice z c.items.length A):=y 4 _ rfl;have d5:wr.cell? ⟨f,e*7+5,none⟩=some (.slice B c.keys.length C):=y 5 _ rfl;have d6:wr.cell? ⟨f,e*7+6,none⟩=some (.slice v c.filters.length x):=y 6 _ rfl;have bm:Hid (qy U j c):=cp.o c (cB hy);have HX:Hid (gR (λf=>f<w.heap.size) (j+3) wr _ c):=O;have HY:=gv hy;have ba:Hid (∀p:World,Below (w.heap.size+1) (wr.alloc (.cells #[.int .i64 (c.kind:Int),.int .i64 c.n,.int .i64 (c.places:Int),.string (gC c.text),.slice z c.items.length A,.slice B c.keys.length C,.slice v c.filters.length x] 67)) p->Below w.heap.size w p):=λp b=>(r.o.alloc r.o.size _).trans (b.mono (dV _));have a8:Hid (∀(p:World) (o1 Q:Value),iR (w.heap.size+1) (w.heap.size+2) p o1 Q ((iq++gK d 1)++wohead ((e:Int)+1)) (gV d 9 1++[(iq++gK d 1).length])->Below (w.heap.size+1) (wr.alloc (.cells #[.int .i64 (c.kind:Int),.int .i64 c.n,.int .i64 (c.places:Int),.string (gC c.text),.slice z c.items.length A,.slice B c.keys.length C,.slice v c.filters.length x] 67)) p->Calls Tryz.prog (bif ((c.kind:Int)==8)then 131 else 132) #[.pointer (some ⟨w.heap.size+2,0,none⟩),.agg #[.int .i64 (c.kind:Int),.int .i64 c.n,.int .i64 (c.places:Int),.string (gC c.text),.slice z c.items.length A,.slice B c.keys.length C,.slice v c.filters.length x]] p λq a=>∃g,BO t j c g/\lV (w.heap.size+1) (w.heap.size+2) p Q ((iq++gK d 1)++wohead ((e:Int)+1)) (gV d 9 1++[(iq++gK d 1).length]) g q a):=λp o1 Q ho hb=>by
    have bs:=ba.o p hb;refine LI HE.o bq (K.o.low (bs.mono i)) (fw i) ho (HX.o.keep _ (λf l _=>?_)) bm.o ?_;·rw[bs.block f l,r.o.block f l]
    ·have Z:=m.o.sm;have h2:=jg (n:=(e:Int)+1) (by omega) (by omega);rw[ab];unfold wohead;simp only[ab,ag,aw]at Z ⊢;omega
   have bf:Hid (∀g,BO t j c g->g.length<=102100000):=λg F=>bm.o.body bq F;have M:(gV d 9 1).length=e:=by rw[kf,s]
   have a5:=m.o.sm;have bc:Hid (Calls Tryz.prog 93 #[.pointer (some ⟨w.heap.size+2,0,none⟩),.int .i64 ((e:Int)+1),.agg #[.int .i64 (c.kind:Int),.int .i64 c.n,.int .i64 (c.places:Int),.string (gC c.text),.slice z c.items.length A,.slice B c.keys.length C,.slice v c.filters.length x]] (wr.alloc (.cells #[.int .i64 (c.kind:Int),.int .i64 c.n,.int .i64 (c.places:Int),.string (gC c.text),.slice z c.items.length A,.slice B c.keys.length C,.slice v c.filters.length x] 67)) λq a=>q=.returned (.tuple #[])/\∃g o1 Q,BO t j c g/\iR (w.heap.size+1) (w.heap.size+2) a o1 Q ((iq++gK d 1)++(wohead ((e:Int)+1)++(g++[10,101,110,100,111,98,106,10]))) (gV d 9 1++[(iq++gK d 1).length])/\Below (w.heap.size+1) (wr.alloc (.cells #[.int .i64 (c.kind:Int),.int .i64 c.n,.int .i64 (c.places:Int),.string (gC c.text),.slice z c.items.length A,.slice B c.keys.length C,.slice v c.filters.length x] 67)) a):=by
    have dp:=r.o.size;have L:lD R (wr.alloc (.cells #[.int .i64 (c.kind:Int),.int .i64 c.n,.int .i64 (c.places:Int),.string (gC c.text),.slice z c.items.length A,.slice B c.keys.length C,.slice v c.filters.length x] 67)):=K.o.low ((r.o.alloc r.o.size _).mono i);rcases m.o.ow with⟨Y,hM⟩ | ⟨Y,D⟩
    ·subst Y;exact LG L bf.o (fw i) (hM.alloc _) (by omega) (by omega) (aE _) (by show 9+100+102100000<=500000000;omega) a8.o
    ·exact Ew L bf.o (fw i) (D.alloc _) (by omega) (by omega) (by omega) (by omega) a8.o
   clear O y hy ad M;go_wp2_with fail;refine bc.o.mono ?_;rintro q w5 ⟨rfl,g,o5,p5,bx,J,bt⟩;have ch:=gv (ba.o w5 bt);rw[<-s]at J;rw[<-whead_obj,<-whead_place d g]at J;have a9:Hid (lR t j h (d++[g])):=m.o.bod.snoc (by rw[s];exact HY.o) bx;have cd:Hid (Below (w.heap.size+1) V w5):=m.o.bel.trans (((aj _ _).alloc bz _).trans bt);obtain⟨di,dj,dc⟩:=i_ J.oo;subst dc;have E:=J.blk;obtain⟨H,a3⟩:∃H,H=(iq++gK (d++[g]) 1).length:=⟨_,rfl⟩;rw[<-a3]at E;have c0:=mb E;have bi:=gv J;have ao:=gv a3;clear J bx E a3 bc d0 d1 d2 d3 d4 d5 d6;by_cases c6:200000<H
   ·have tb:decide ((H:Int)>200000)=true:=by simp;omega
    go_wp2;go_ret;have de:w5.ownsRow w.heap.size 5 1 (.slice di H dj) (iq++gK (d++[g]) 1).length (l_ (iq++gK (d++[g]) 1)):=by rw[ao.o];exact zX bi.o.oo (dV _)
    exact⟨_,_,d++[g],rfl,de,ch.o,a9.o,Or.inr ⟨by rw[<-ao.o];exact c6,rfl⟩⟩
   ·have tb:decide ((H:Int)>200000)=false:=by simp;omega
    go_wp2;go_roundw
    case rel=>exact⟨e+1,d++[g],_,_,by omega,by first | rfl | (congr 1),by rw[ab,s];rfl,⟨Or.inr ⟨by simp,bi.o⟩,cd.o,a9.o,by rw[<-ao.o];omega⟩⟩
    case measure=>simp[intOf];omega
end
theorem gy.padTo(k a:Nat):gy (jO k a):=by unfold jO;refine gy.app (λc b=>?_) (gy.dig a);have:=List.eq_of_mem_replicate b;omega
theorem gy.wint(a:Nat):gy (iE (a:Int)):=by rw[ox];exact gy.dig a
theorem gy.table(pl:List Nat):gy (j7 pl):=by
 unfold j7 jR;refine gy.app (gy.app (gy.lit (by decide)) (gy.app ?_ (gy.lit (by decide)))) (gy.flatMap (λa _=>?_));·rw[show((pl.length:Int)+1)=((pl.length+1:Nat):Int)by omega];exact gy.wint _
 ·unfold jv;exact gy.app (gy.padTo _ _) (gy.lit (by decide))
theorem gy.trail(a k:Nat):gy (wtrail ((a:Int)+1) (k:Int)):=by unfold wtrail;rw[show((a:Int)+1)=((a+1:Nat):Int)by omega];exact gy.app (gy.app (gy.lit (by decide)) (gy.app (gy.lit (by decide)) (gy.app (gy.wint _) (gy.app (gy.lit (by decide)) (gy.app (gy.wint _) (gy.app (gy.lit (by decide)) (gy.lit (by decide)))))))) (gy.lit (by decide))
theorem gy.body:∀(d:List (List Nat)) (a:Nat),(∀b∈d,gy b)->gy (gK d a)
 | [],_,_=>λb e=>by cases e
 |b::g,a,c=>by unfold gK jJ wohead;exact gy.app (gy.app (gy.app (gy.wint a) (gy.lit (by decide))) (gy.app (c b (aQ ..)) (gy.lit (by decide)))) (gy.body g (a+1) (λh f=>c h (aV _ f)))
theorem gy.file{a:List (List Nat)}(k:Nat)(b:∀c∈a,gy c):gy (jf a (k:Int)):=by unfold jf;exact gy.app (gy.app (gy.lit (by decide)) (gy.body a 1 b)) (gy.app (gy.table _) (gy.app (gy.trail _ _) (gy.app (gy.lit (by decide)) (gy.app (gy.wint _) (gy.lit (by decide))))))
theorem gy.wintI(b:Int):gy (iE b):=by
 unfold iE;split;·exact gy.app (a:=[45]) (gy.lit (by decide)) (show gy (iL b.natAbs)by rw[qC];exact gy.dig _)
 ·rw[qC];exact gy.dig _
theorem gy.real(g:Int)(f:Nat):gy (jF g f):=by
 have d:∀e:Nat,gy (kQ e f):=λe=>by
  unfold kQ;refine gy.app (gy.app (λc b=>gy.padTo _ _ c (cK b)) (gy.app (a:=[46]) (gy.lit (by decide)) (λc b=>gy.padTo _ _ c (cW b)))) ?_;split;·exact gy.lit (by decide)
  ·exact λc b=>by cases b
 unfold jF;split;·exact gy.app (a:=[45]) (gy.lit (by decide)) (d _)
 ·exact d _
theorem tQ(a:Nat)(b:a<16):gP a<256:=by
 have:∀a:Fin 16,gP a.1<256:=by decide
 exact this ⟨a,b⟩
theorem gy.name{e:List Nat}(f:∀d∈e,d<256):gy (ir e):=by
 refine gy.app (a:=[47]) (gy.lit (by decide)) (gy.flatMap λb g=>?_);have:=f b g;unfold i9;split;·intro d c;rcases cc.1 c with rfl;exact this
 ·intro d c;have h:=tQ (b/16) (by omega);have i:=tQ (b%16) (by omega);simp only[bT,eS,or_false]at c;rcases c with rfl | rfl | rfl<;>omega
theorem gy.quoted{d:List Nat}(f:∀e∈d,e<256):gy (mq d):=by
 refine gy.app (gy.app (a:=[40]) (gy.lit (by decide)) (gy.flatMap λb g=>?_)) (gy.lit (by decide));have:=f b g;unfold jV;intro e c;split at c
 ·simp only[bT,eS,or_false]at c;rcases c with rfl | rfl<;>omega
 ·split at c;·rcases cc.1 c with rfl;exact this
  ·simp only[bT,eS,or_false]at c;rcases c with rfl | rfl | rfl | rfl<;>omega
theorem gy.join{b:List (List Nat)}(d:∀c∈b,gy c):gy (iC b):=by
 cases b with
 |nil=>exact λc e=>by cases e
 |cons c b=>exact gy.app (d c (aQ ..)) (gy.flatMap λg f=>gy.app (a:=[32]) (gy.lit (by decide)) (d g (aV _ f)))
theorem gy.wv:∀(k:Nat) {c:VT k},sI c->gy (iu c)
 |0,_,_=>λd b=>by cases b
 |k+1,c,i=>by
  obtain⟨_,_,_,_,f,j,e⟩:=i;unfold iu;split;·exact gy.lit (by decide)
  ·split;·exact gy.lit (by decide)
   ·exact gy.lit (by decide)
  ·exact gy.wintI _
  ·exact gy.real _ _
  ·exact gy.name f
  ·exact gy.quoted f
  ·refine gy.app (a:=[91]) (gy.lit (by decide)) (gy.app (gy.join λd b=>?_) (gy.lit (by decide)));obtain⟨n,l,rfl⟩:=cv.1 b;exact gy.wv k (e n l)
  ·refine gy.app (a:=[60,60]) (gy.lit (by decide)) (gy.app (gy.join λd b=>?_) (gy.lit (by decide)));obtain⟨h,m,rfl⟩:=cv.1 b;have g:=fW m;exact gy.app (gy.name (j h.1 g.1)) (gy.app (a:=[32]) (gy.lit (by decide)) (gy.wv k (e h.2 g.2)))
  ·exact gy.app (gy.wintI _) (gy.lit (by decide))
  ·exact λd b=>by cases b
theorem ui{a k:Nat}(b:a<10^(k+1)):(iP a).length<=k+1:=nN k a b
theorem rg{a k:Nat}(b:a<10^(k+1)):(iE (a:Int)).length<=k+1:=by rw[ox];exact ui b
theorem pD(b:Nat):∀(c:List (List Nat)) (a:Nat),(∀d∈c,d.length<=b)->a+c.length<=1000->(gK c a).length<=c.length*(b+20)
 | [],_,_,_=>aE _
 |d::h,a,e,f=>by
  have ih:=pD b h (a+1) (λi g=>e i (aV _ g)) (by simp only[ag]at f;omega);have l:=e d (aQ ..);have j:(iE (a:Int)).length<=3:=rg (k:=2) (by simp only[ag]at f;omega);rw[gK,ab,ag,Nat.succ_mul];have:(jJ a d).length<=b+20:=by unfold jJ wohead;simp only[ab,ag,aw];omega
  omega
theorem sD{ms:List (List Nat)}{m k:Nat}(c:∀f∈ms,f.length<=m)(d:0<ms.length/\ms.length<=6)(r:m<=30000)(q:k<1000):(iq++gK ms 1).length<=200000/\(jf ms (k:Int)).length<=190000/\60<=(jf ms (k:Int)).length:=by
 have o:=pD m ms 1 c (by omega);have p:ms.length*(m+20)<=6*30020:=Nat.mul_le_mul d.2 (by omega);have h:(iq++gK ms 1).length=9+(gK ms 1).length:=by rw[ab];rfl
 refine⟨by omega,?_⟩;have l:(j7 (gV ms 9 1)).length<=40+20*ms.length/\28+20*ms.length<=(j7 (gV ms 9 1)).length:=by
  have a:∀b∈gV ms 9 1,b<10^10:=λb a=>by have:=oy ms 9 1 b a;omega
  have e:=kf ms 9 1;unfold j7;rw[ab,wlines_len _ a,e];have h3:(iE ((ms.length:Int)+1)).length<=3:=by rw[show((ms.length:Int)+1)=((ms.length+1:Nat):Int)by omega];exact rg (k:=2) (by omega)
  unfold jR;simp only[ab,ag,aw];omega
 have j:(wtrail ((ms.length:Int)+1) (k:Int)).length<=80/\10<=(wtrail ((ms.length:Int)+1) (k:Int)).length:=by
  have h3:(iE ((ms.length:Int)+1)).length<=3:=by rw[show((ms.length:Int)+1)=((ms.length+1:Nat):Int)by omega];exact rg (k:=2) (by omega)
  have n:(iE (k:Int)).length<=3:=rg (k:=2) (by omega);unfold wtrail;simp only[ab,ag,aw];omega
 have i:(iE (((iq++gK ms 1).length:Nat):Int)).length<=6:=rg (k:=5) (by omega);unfold jf;generalize iq++gK ms 1=g at *;rw[ab,ab,ab,ab,ab];simp only[ag,aw];omega
section
variable{o:Nat}
theorem Js(a:o<=6){c:VT 12}{g:List Nat}(b:jT o c)(s:BO FE 9 c g):g.length<=22000/\gy g:=by
 have p:=jT.ok a b;have r:=jT.wl a b;rcases s with⟨f,e,x,u,m,rfl⟩ | ⟨f,rfl⟩
 ·have h:nL o c:=by
   rcases b with b | ⟨D,b,rfl⟩ | b;·exact absurd f (hH.kind b)
   ·cases f
   ·exact b
  obtain⟨t,i,w⟩:=nL.sok a h;obtain⟨_,B,C,_,_,_,_,z,A,n,_⟩:=h;have q:2^(gz.filters (α:=VT 11) c).length<=2^3:=cy (by omega) n;have y:=Nat.mul_le_mul q (show(gz.text (α:=VT 11) c).length+36<=76 by omega);have v:e.length<=608:=by omega
  have d:=(i.dict e.length (by omega)).1;have j:=mA d;have l:=i.wlen e.length;unfold wstream;refine⟨?_,gy.app (gy.wv 12 d) (gy.app (gy.lit (by decide)) (gy.app m (gy.lit (by decide))))⟩;rw[ab,ab,ab];simp only[ag,aw];have h3:(iu (k:=12) (sdict 9 c e.length)).length<=13132+8000:=aD j (aD l (by omega));omega
 ·have d:=p.val f;exact⟨aD (mA d) (aD r (by omega)),gy.wv 12 d⟩
theorem mt(a:o<=6){b:List (VT 12)}{ms:List (List Nat)}(h:∀g∈b,jT o g)(d:lR FE 9 b ms):∀c∈ms,c.length<=22000/\gy c:=by
 intro c j;obtain⟨f,i,rfl⟩:=cA j;have k:=d.len;have e:f<b.length:=by omega
 exact Js a (h _ (df e)) (d.each f _ _ (ai i) (ai e))
theorem FY(a:o<=6){c:List (VT 12)}{b:List (List Nat)}(l:c.length=o)(f:∀e∈c,jT o e)(d:lR FE 9 c b):(iq++gK b 1).length<=200000:=by
 have m:=d.len;have j:=pD 22000 b 1 (λh g=>(mt a f d h g).1) (by omega);have k:b.length*(22000+20)<=6*22020:=Nat.mul_le_mul (by omega) (by omega);have i:(iq++gK b 1).length=9+(gK b 1).length:=by rw[ab];rfl
 omega
structure xg(Vs:List (VT 12))(b:List Nat)(ys:List (VT 12 × List Nat)):Prop where
 doc:iM b=some (ys,((1:Nat):Int))
 all:UA FD ys 1000000 (.ok Vs)
 less:∀most,most<i8 Vs->UA FD ys most (.error 6)
 byt:gy b
 len:60<=b.length/\b.length<=190000
 cut:iM (b.take (b.length-2))=none
 more:iM (b++[32])=none
 isd:kn (ys.map Prod.fst) ((1:Nat):Int)=true
 fil:∀x∈ys,∃fs:List nU,gz.filters (α:=VT 11) x.1=fs.map λy=>y.1
 pb:∀x∈ys,∀b∈x.2,b<256
theorem Ec:∀{d:List (VT 12)},(∀b∈d,jT o b)->i8 d<=40*d.length
 | [],_=>aE _
 |b::j,e=>by
  have ih:=Ec (λg h=>e g (aV _ h));have i:n6 b<=40:=by
   unfold n6;split
   ·rename_i f;rcases e b (aQ ..)with c | ⟨k,c,rfl⟩ | c;·exact absurd f (hH.kind c)
    ·cases f
    ·exact c.2.2.2.2.2.2.2.1
   ·omega
  rw[i8,ag];omega
theorem Mn{e k:Nat}{d:VT (k+1)}(b:hH o e (k+1) d):gz.filters (α:=VT k) d=[]:=by
 have i:∀{d:gz (VT k)},lU o d->d.filters=[]:=λb=>by rcases b with rfl | ⟨g,n,rfl⟩ | ⟨g,c,f,rfl⟩ | ⟨g,q,c,f,h3,j,rfl⟩ | ⟨m,h,c,rfl⟩ | ⟨m,h,c,rfl⟩ | ⟨g,h,c,rfl⟩<;>rfl
 cases e with
 |zero=>exact i b
 |succ e =>
  rcases b with b | ⟨l,c,f,rfl⟩ | ⟨p,l,c,f,h3,j,rfl⟩;·exact i b
  ·rfl
  ·rfl
theorem mf(a:o<=6){f:List (VT 12)}{ms:List (List Nat)}(w:0<o)(F:f.length=o)(n:∀e∈f,jT o e)(y:∃e,f[0]?=some e/\kO e=7)(s:lR FE 9 f ms)(A:ms.length=f.length):∃g,xg f (jf ms ((1:Nat):Int)) g:=by
 obtain⟨g,q,x,h3,l,r⟩:=oZ.back a n (lR.list A s.each);have t:=mt a n s;have G:=Ec n;obtain⟨_,D,E⟩:=sD (ms:=ms) (m:=22000) (k:=1) (λd c=>(t d c).1) (by omega) (by omega) (by omega);obtain⟨u,v⟩:=qK (k:=1) q (by omega) (by omega);refine⟨g,p_ q (by omega) (by omega),x _ (by omega),h3,gy.file 1 (λd c=>(t d c).2),⟨E,D⟩,u,v,?_,λd c=>?_,λd c=>(l d c).2⟩
 ·have B:g.length=o:=by have:=cq List.length r;simp at this;omega
  refine qD a w (by rw[av];exact B) (λe p=>?_) ?_
  ·obtain⟨j,i,rfl⟩:=cv.1 p;exact(l j i).1
  ·obtain⟨e,p,z⟩:=y;have b:=cq (λC=>C[0]?) r;simp only[bj]at b ⊢;rw[p]at b;cases i:g[0]? with
   |none=>rw[i]at b;cases b
   |some j=>rw[i]at b;simp only[fX,Option.some.injEq]at b;exact⟨j.1,rfl,b.trans z⟩
 ·rcases(l d c).1 with h | ⟨j,h,b⟩ | h;·exact⟨[],Mn h⟩
  ·rw[b];exact⟨[],rfl⟩
  ·exact fo _ h.2.2.2.2.2.2.2.2.2.2
theorem Jy{b:List (VT 12)}{c d:List (List Nat)}(h:∀e∈b,jT o e)(f:lR FE 9 b c)(i:c.length=b.length)(g:lR FE 9 b d)(j:d.length=b.length):c=d:=oZ.one h (lR.list i f.each) (lR.list j g.each)
end
end Go.Proofs.YtgkljcmjnphpeaaGreatDoor
