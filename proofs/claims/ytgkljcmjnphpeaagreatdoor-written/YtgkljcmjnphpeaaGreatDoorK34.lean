import Derived.Test.YtgkljcmjnphpeaaGreatDoorK33
set_option linter.unusedVariables false
set_option linter.unusedSimpArgs false
set_option maxHeartbeats 4000000
set_option maxRecDepth 100000
namespace Go.Proofs.YtgkljcmjnphpeaaGreatDoor
open Go.RowKit
section
variable{w w':World}{B bf:Nat}{s q:Value}{p r:List Nat}
theorem iR.alloc(a:iR B bf w s q p r)(b:Obj):iR B bf (w.alloc b) s q p r:=⟨a.hb,l9 _ a.blk,a.oo.alloc _,a.po.alloc _⟩
theorem ma(f:iR B bf w s q p r)(a:ByteArray)(i:p.length+a.size<=500000000) :
  Calls Tryz.prog 96 #[.pointer (some ⟨bf,0,none⟩),.slice (some ⟨w.heap.size,0,none⟩) 1 1] (w.alloc (.cells #[.string a] 9)) λd w'=>d=.returned (.tuple #[])/\∃c,iR B bf w' c q (p++bl a) r/\h_ B bf w w':=by
 have:=EC (texts:=[a]) (cap:=1) (f.alloc (.cells #[.string a] 9)) (jd w _) (λe j b=>by
  match e,b with
  |0,b=>cases b;rfl
  |e+1,b=>simp at b) (by simp) (by decide) (by simp[jU,nM];omega)
 refine this.mono ?_;rintro d w' ⟨rfl,c,g,h⟩;refine⟨rfl,c,?_,((h_.refl B bf w).alloc _).trans h⟩;simpa[jU]using g
theorem vS(g:iR B bf w s q p r)(b c:ByteArray)(j:p.length+(b.size+c.size)<=500000000) :
  Calls Tryz.prog 96 #[.pointer (some ⟨bf,0,none⟩),.slice (some ⟨w.heap.size,0,none⟩) 2 2] (w.alloc (.cells #[.string b,.string c] 9)) λe w'=>e=.returned (.tuple #[])/\∃d,iR B bf w' d q (p++(bl b++bl c)) r/\h_ B bf w w':=by
 have:=EC (texts:=[b,c]) (cap:=2) (g.alloc (.cells #[.string b,.string c] 9)) (jd w _) (λf k a=>by
  match f,a with
  |0,a=>cases a;rfl
  |1,a=>cases a;rfl
  |f+2,a=>simp at a) (by simp) (by decide) (by simp[jU,nM];omega)
 refine this.mono ?_;rintro e w' ⟨rfl,d,h,i⟩;refine⟨rfl,d,?_,((h_.refl B bf w).alloc _).trans i⟩;simpa[jU]using h
theorem vT(h:iR B bf w s q p r)(b c d:ByteArray)(k:p.length+(b.size+(c.size+d.size))<=500000000) :
  Calls Tryz.prog 96 #[.pointer (some ⟨bf,0,none⟩),.slice (some ⟨w.heap.size,0,none⟩) 3 3] (w.alloc (.cells #[.string b,.string c,.string d] 9)) λf w'=>f=.returned (.tuple #[])/\∃e,iR B bf w' e q (p++(bl b++(bl c++bl d))) r/\h_ B bf w w':=by
 have:=EC (texts:=[b,c,d]) (cap:=3) (h.alloc (.cells #[.string b,.string c,.string d] 9)) (jd w _) (λg l a=>by
  match g,a with
  |0,a=>cases a;rfl
  |1,a=>cases a;rfl
  |2,a=>cases a;rfl
  |g+3,a=>simp at a) (by simp) (by decide) (by simp[jU,nM];omega)
 refine this.mono ?_;rintro f w' ⟨rfl,e,i,j⟩;refine⟨rfl,e,?_,((h_.refl B bf w).alloc _).trans j⟩;simpa[jU]using i
theorem iR.set{c:World}{n b:Value}{i:List Nat}(d:iR B bf w s q p r)(k:h_ B bf w c)(g:c.heap[bf]?=some (.cells #[n,q] 122 (0,0)))(y:∀a,b.ownBlock=some a->n.ownBlock=some a\/w.heap.size<=a)(x:c.ownsRow B 5 1 b i.length (l_ i)) :
  iR B bf (c.setCell ⟨bf,0,none⟩ b) b q i r/\h_ B bf w (c.setCell ⟨bf,0,none⟩ b):=by
 have m:h_ B bf w (c.setCell ⟨bf,0,none⟩ b):=k.setV g y;have u:(c.setCell ⟨bf,0,none⟩ b).heap[bf]?=some (.cells #[b,q] 122 (0,0)):=by rw[lq _ g];rfl
 refine⟨⟨d.hb,u,?_,?_⟩,m⟩
 ·obtain⟨t,f⟩:=x;refine⟨t,?_⟩;rcases f with f | ⟨a,j,o,e1,e2,h,e⟩;·exact Or.inl f
  ·refine Or.inr ⟨a,j,o,e1,e2,?_,e⟩;rw[jL _ (by show a≠bf;rintro rfl;rw[g]at h;simp at h)];exact h
 ·refine zY d.po m.togD (by decide) (λa v l=>?_);simp at l;subst l;obtain⟨_,j,z,e⟩:=nR d.po a v;rw[d.blk]at e;simp at e
theorem tS{w:World}{d:Nat}:∀(b:Nat) (c:Value),(l_ [d])[b]?=some c->(w.alloc (.cells #[.int .u8 (d:Nat)] 5)).cell? ((⟨w.heap.size,0,none⟩:Addr).add b)=some c:=by
 intro b c a;match b,a with
 |0,a=>cases a;rw[aa,cb (jd w _)];rfl
 |b+1,a=>simp[l_]at a
theorem zP{w:World}{a:Nat}{e:Obj}(d:a<w.heap.size):(w.alloc e).heap[a]?=w.heap[a]?:=by obtain⟨c,b⟩:∃c,w.heap[a]?=some c:=⟨_,aW d⟩;rw[b];exact l9 _ b
theorem EN(f:Value)(c:List Nat)(i:w.ownsRow B 5 1 f c.length (c.map λa:Nat=>.int .u8 (a:Int)))(J:B<=w.heap.size)(K:c.length<=1000000000)(b:Nat)(h:b<256) :
  Calls Tryz.prog 143 #[f,.int .u8 b] w λm w'=>∃g C,m=.returned g/\w'.ownsRow B 5 1 g (c.length+2) ((c.map λa:Nat=>.int .u8 (a:Int))++([gP (b/16),gP (b%16)].map λa:Nat=>.int .u8 (a:Int)))/\(w.alloc C).grownBy w' f.ownBlock/\(∀d,g.ownBlock=some d->f.ownBlock=some d\/w.heap.size<=d):=by
 obtain⟨A,t,x,y,z⟩:=bu Tryz.infoByte;have E:0<=(b:Int)/16:=by omega
 have F:(b:Int)/16<16:=by omega
 have G:bits .and .u8 (b:Int) 15=((b%16:Nat):Int):=by have:=u8_and_nat b 15 h (by omega);rw[nat_mask4]at this;exact this
 have H:(b:Int)%16<16:=by omega
 have I:0<=(b:Int)%16:=by omega
 have e1:((b:Int)/16).toNat=b/16:=by omega
 have e2:((b:Int)%16).toNat=b%16:=by omega
 have k:=gv e1;have l:=gv e2;clear e1 e2;go_enter Tryz.func143,Tryz.ntmps143;go_wp2_with fail;go_region_law (refine vX rfl (.tmp 5) (.tmp 12) 23 rfl B 5 A (.int .u8 0) 1 1 aq t x y z rfl (by decide) f c.length _ rfl (fg (i.alloc _)) ⟨w.heap.size,0,none⟩ 2 2 ([gP (b/16),gP (b%16)].map λa:Nat=>.int .u8 (a:Int)) rfl (by simp) ?hnews ?hone ?h63 ?hby ?hb ?_;(case hnews=>refine FC ?_ ?_<;>simp only[k.o,l.o]<;>exact cq _ (FB _ (by omega) _));(case hone=>intro L j;simp at j;rcases j with rfl | rfl<;>rfl);(case h63=>unfold maxLen;omega);(case hby=>omega);(case hb=>simp;omega);intro g M u e v);all_goals (clear i)
 all_goals go_wp2
 all_goals go_ret
 all_goals exact⟨g,_,rfl,u,⟨e.os,e.tape,e.output,e.size,e.block⟩,λd n=>(v d n).imp id (λD=>aD (by simp) D)⟩
def i9(b:Nat):List Nat:=if iN b=true/\b≠35 then[b]else[35,gP (b/16),gP (b%16)]
def ir(a:List Nat):List Nat:=47::a.flatMap i9
theorem pR(b:Nat):(i9 b).length<=3:=by unfold i9;split<;>simp
theorem GJ(h:iR B bf w s q p r)(f:ByteArray)(bv:p.length+3*f.size+1<=500000000) :
  Calls Tryz.prog 182 #[.pointer (some ⟨bf,0,none⟩),.string f] w λc w'=>c=.returned (.tuple #[])/\∃bq,iR B bf w' bq q (p++ir (bl f)) r/\h_ B bf w w':=by
 obtain⟨i1,gi,a4,a5,a6⟩:=bu Tryz.infoByte;have HP:=gv (ma h { data:=#[47] } (by show p.length+1<=_;omega));have HS:Hid (∀O,O<f.size->∃N:O<f.size,(f[O]'N).toNat=nth (bl f) O):=λO N=>⟨N,CI f O N⟩;obtain⟨Y,hn⟩:∃Y,f.size=Y:=⟨_,rfl⟩;have HN:=gv hn;have bz:Y<=500000000:=by omega
 clear h;go_enter Tryz.func182,Tryz.ntmps182;go_wp2_with fail;refine HP.o.mono ?_;rintro c w1 ⟨rfl,br,h1,k1⟩;have H1:=gv h1;have K1:=gv k1;clear h1 k1 HP;go_wp2_with fail;go_loopw [4,5,11] (λ_ _ iv wr=>∃(g:Nat) (a9:Value),g<=Y/\iv=.int .i64 (g:Int)/\Hid (iR B bf wr a9 q (p++ir ((bl f).take g)) r)/\Hid (h_ B bf w wr)) (λ_ _ iv _=>Y-(intOf iv).toNat)
 case atStart=>exact⟨0,br,aE _,rfl,H1.o,K1.o⟩
 case round =>
  obtain⟨g,a9,hm,rfl,e,HK⟩:=hrel;rcases bN hm with hm | hm
  ·subst hm;go_wp2
   go_end0
   refine⟨rfl,a9,?_,HK.o⟩;have:=e.o;rw[show(bl f).take g=bl f from aY (by rw[nM,HN.o];exact af _)]at this;exact this
  ·obtain⟨N,hb⟩:=HS.o g (by omega);have hx:(bl f)[g]?=some (nth (bl f) g):=by simp[nth,ai (show g<(bl f).length by rw[nM];omega)]
   have bd:ir ((bl f).take (g+1))=ir ((bl f).take g)++i9 (nth (bl f) g):=by unfold ir;rw[cP,hx,cx];simp
   have bb:=tP f g N;have bx:(p++ir ((bl f).take g)).length+3<=500000000:=by
    have:∀X:List Nat,(ir X).length<=3*X.length+1:=λX=>by
     unfold ir;induction X with
     |nil=>simp
     |cons bn X ih=>have:=pR bn;simp only[cH,ag,ab]at ih ⊢;omega
    have h2:=this ((bl f).take g);rw[ax,nM]at h2;rw[ab];omega
   obtain⟨L,M,rfl⟩:=i_ e.o.oo;have n:=e.o.blk;have a2:=gv bd;generalize bc:p++ir ((bl f).take g)=a at *;have a1:=gv bc;clear bc bd hx;generalize nth (bl f) g=b at *;have hB:=e.o.bw;have c0:=mb n;have f0:=ix 0 n;by_cases G:iN b=true/\b≠35
   ·have t2:((b:Int) != 35)=true:=by simp;omega
    have E:=gv (C8 b);rw[G.1]at E;have ad:Hid (i9 b=[b]):=by unfold Hid i9;rw[aA G]
    clear G;go_wp2_with fail;refine(E.o _).mono ?_;rintro c w' ⟨rfl,m⟩;have m:=m.symm;subst m;go_wp2_with (at_builtin;refine pZ _ rfl (.tmp 27) (.tmp 29) 23 rfl B 5 i1 (.int .u8 0) 1 1 aq gi a4 a5 a6 rfl (by decide) _ a.length _ rfl (e.o.oo.alloc _) ⟨wr.heap.size,0,none⟩ 1 1 (l_ [b]) rfl rfl ?hnews ?hone ?h63 ?hby ?hbs ?_)
    case hnews=>exact tS
    case hone=>intro bi z;simp[l_]at z;subst z;rfl
    case h63=>unfold maxLen;omega
    case hby=>omega
    case hbs=>simp;omega
    intro P k j l A;have t:k.heap[bf]?=some (.cells #[.slice L a.length M,q] 122 (0,0)):=by rw[l.block bf (by simp;have:=e.o.lt;omega) (λc=>e.o.ne bf c.symm rfl)];exact l9 _ n
    have y:=gv (e.o.grow ((h_.refl B bf wr).alloc _) (zP e.o.lt) (e.o.oo.alloc _) l (λd x=>(A d x).imp id (λbm=>by omega)) j rfl);obtain⟨C,D,T⟩:=i_ j;subst T;have c6:=mb t;have f6:=ix 0 t;clear j l A t n;go_wp2;go_roundw
    case rel=>exact⟨g+1,_,by omega,by first | rfl | (congr 1),by rw[a2.o,<-ak,a1.o,ad.o];exact y.o.1,HK.o.trans y.o.2⟩
    case measure=>simp[intOf];omega
   ·have ad:Hid (i9 b=[35,gP (b/16),gP (b%16)]):=by unfold Hid i9;rw[au G]
    have E:=gv (C8 b);cases S:iN b with
    |false =>
     rw[S]at E;clear S;clear G;go_wp2_with fail;refine(E.o _).mono ?_;rintro c w' ⟨rfl,m⟩;have m:=m.symm;subst m;go_wp2_with (at_builtin;refine pZ _ rfl (.tmp 37) (.tmp 38) 23 rfl B 5 i1 (.int .u8 0) 1 1 aq gi a4 a5 a6 rfl (by decide) _ a.length _ rfl (e.o.oo.alloc _) ⟨wr.heap.size,0,none⟩ 1 1 (l_ [35]) rfl rfl ?hnews ?hone ?h63 ?hby ?hbs ?_)
     case hnews=>exact tS
     case hone=>intro bi z;simp[l_]at z;subst z;rfl
     case h63=>unfold maxLen;omega
     case hby=>omega
     case hbs=>simp;omega
     intro P k j l A;have t:k.heap[bf]?=some (.cells #[.slice L a.length M,q] 122 (0,0)):=by rw[l.block bf (by simp;have:=e.o.lt;omega) (λc=>e.o.ne bf c.symm rfl)];exact l9 _ n
     have J:h_ B bf wr k:=((h_.refl B bf wr).alloc _).grown (l9 _ n) l (nR (e.o.oo.alloc _)) (λc=>e.o.ne bf c rfl) (λd c=>Or.inl c);have Z:k.ownsRow B 5 1 P (a++[35]).length ((a++[35]).map λba:Nat=>.int .u8 (ba:Int)):=by rw[ab,aH];exact j
     have a8:B<=k.heap.size:=aD hB J.size;have al:=gv (EN P (a++[35]) Z a8 (by rw[ab];simp;omega) b bb);obtain⟨C,D,T⟩:=i_ j;subst T;have a0:Hid (∀i:Obj,∀d,(Value.slice C (a.length+1) D).ownBlock=some d->B<=d/\∃a3 fz,(k.alloc i).heap[d]?=some (.cells a3 5 fz)):=λi=>nR (j.alloc i);have ao:=gv t;have R:=gv J;have Q:=gv A;clear j Z l t J A;go_wp2_with fail;refine al.o.mono ?_;rintro c w7 ⟨v7,i,rfl,K,F,V⟩;have u:=l9 i ao.o;have H:(Value.slice C (a.length+1) D).ownBlock≠some bf:=λc=>by
      rcases Q.o bf c with h | h;·exact e.o.ne bf h rfl
      ·have:=e.o.lt;omega
     have v:w7.heap[bf]?=some (.cells #[.slice L a.length M,q] 122 (0,0)):=by rw[F.block bf (ae u) (λc=>H c.symm)];exact u
     have ac:w7.ownsRow B 5 1 v7 (a++i9 b).length (l_ (a++i9 b)):=by
      rw[ad.o];have:a++[35,gP (b/16),gP (b%16)]=(a++[35])++[gP (b/16),gP (b%16)]:=by simp
      have a7:((a++[35])++[gP (b/16),gP (b%16)]).length=(a++[35]).length+2:=by rw[ab];rfl
      rw[this,a7];unfold l_;rw[aH];exact K
     have I:∀d,(Value.slice C (a.length+1) D).ownBlock=some d->(Value.slice L a.length M).ownBlock=some d\/wr.heap.size<=d:=λd x=>(Q.o d x).imp id (λbm=>by omega);have W:=(R.o.alloc i).grown u F (a0.o i) H I;have y:=gv (e.o.set W v (λd x=>by
      rcases V d x with h | h;·exact I d h
      ·exact Or.inr (aD R.o.size h)) ac)
     obtain⟨bs,bt,U⟩:=i_ K;generalize (a++[35]).length+2=n7 at U;subst U;have c6:=mb v;have f6:=ix 0 v;clear K ac v W n F V I H u;go_wp2;go_roundw
     case rel=>exact⟨g+1,_,by omega,by first | rfl | (congr 1),by rw[a2.o,<-ak,a1.o];exact y.o.1,HK.o.trans y.o.2⟩
     case measure=>simp[intOf];omega
    |true =>
     have t2:((b:Int) != 35)=false:=by have:b=35:=Classical.byContradiction λh=>G ⟨S,h⟩;subst this;rfl
     rw[S]at E;clear S;clear G;go_wp2_with fail;refine(E.o _).mono ?_;rintro c w' ⟨rfl,m⟩;have m:=m.symm;subst m;go_wp2_with (at_builtin;refine pZ _ rfl (.tmp 37) (.tmp 38) 23 rfl B 5 i1 (.int .u8 0) 1 1 aq gi a4 a5 a6 rfl (by decide) _ a.length _ rfl (e.o.oo.alloc _) ⟨wr.heap.size,0,none⟩ 1 1 (l_ [35]) rfl rfl ?hnews ?hone ?h63 ?hby ?hbs ?_)
     case hnews=>exact tS
     case hone=>intro bi z;simp[l_]at z;subst z;rfl
     case h63=>unfold maxLen;omega
     case hby=>omega
     case hbs=>simp;omega
     intro P k j l A;have t:k.heap[bf]?=some (.cells #[.slice L a.length M,q] 122 (0,0)):=by rw[l.block bf (by simp;have:=e.o.lt;omega) (λc=>e.o.ne bf c.symm rfl)];exact l9 _ n
     have J:h_ B bf wr k:=((h_.refl B bf wr).alloc _).grown (l9 _ n) l (nR (e.o.oo.alloc _)) (λc=>e.o.ne bf c rfl) (λd c=>Or.inl c);have Z:k.ownsRow B 5 1 P (a++[35]).length ((a++[35]).map λba:Nat=>.int .u8 (ba:Int)):=by rw[ab,aH];exact j
     have a8:B<=k.heap.size:=aD hB J.size;have al:=gv (EN P (a++[35]) Z a8 (by rw[ab];simp;omega) b bb);obtain⟨C,D,T⟩:=i_ j;subst T;have a0:Hid (∀i:Obj,∀d,(Value.slice C (a.length+1) D).ownBlock=some d->B<=d/\∃a3 fz,(k.alloc i).heap[d]?=some (.cells a3 5 fz)):=λi=>nR (j.alloc i);have ao:=gv t;have R:=gv J;have Q:=gv A;clear j Z l t J A;go_wp2_with fail;refine al.o.mono ?_;rintro c w7 ⟨v7,i,rfl,K,F,V⟩;have u:=l9 i ao.o;have H:(Value.slice C (a.length+1) D).ownBlock≠some bf:=λc=>by
      rcases Q.o bf c with h | h;·exact e.o.ne bf h rfl
      ·have:=e.o.lt;omega
     have v:w7.heap[bf]?=some (.cells #[.slice L a.length M,q] 122 (0,0)):=by rw[F.block bf (ae u) (λc=>H c.symm)];exact u
     have ac:w7.ownsRow B 5 1 v7 (a++i9 b).length (l_ (a++i9 b)):=by
      rw[ad.o];have:a++[35,gP (b/16),gP (b%16)]=(a++[35])++[gP (b/16),gP (b%16)]:=by simp
      have a7:((a++[35])++[gP (b/16),gP (b%16)]).length=(a++[35]).length+2:=by rw[ab];rfl
      rw[this,a7];unfold l_;rw[aH];exact K
     have I:∀d,(Value.slice C (a.length+1) D).ownBlock=some d->(Value.slice L a.length M).ownBlock=some d\/wr.heap.size<=d:=λd x=>(Q.o d x).imp id (λbm=>by omega);have W:=(R.o.alloc i).grown u F (a0.o i) H I;have y:=gv (e.o.set W v (λd x=>by
      rcases V d x with h | h;·exact I d h
      ·exact Or.inr (aD R.o.size h)) ac)
     obtain⟨bs,bt,U⟩:=i_ K;generalize (a++[35]).length+2=n7 at U;subst U;have c6:=mb v;have f6:=ix 0 v;clear K ac v W n F V I H u;go_wp2;go_roundw
     case rel=>exact⟨g+1,_,by omega,by first | rfl | (congr 1),by rw[a2.o,<-ak,a1.o];exact y.o.1,HK.o.trans y.o.2⟩
     case measure=>simp[intOf];omega
def jV(b:Nat):List Nat:=if b=40\/b=41\/b=92 then[92,b]else if 32<=b/\b<=126 then[b]else[92,48+b/64,48+b/8%8,48+b%8]
def mF(a:List Nat):List Nat:=40::a.flatMap jV
def mq(a:List Nat):List Nat:=mF a++[41]
theorem qm(b:Nat):(jV b).length<=4:=by
 unfold jV;split;· simp
 ·split<;>simp
theorem nY{w:World}{e b:Nat}:∀(c:Nat) (d:Value),(l_ [e,b])[c]?=some d->(w.alloc (.cells #[.int .u8 (e:Nat),.int .u8 (b:Nat)] 5)).cell? ((⟨w.heap.size,0,none⟩:Addr).add c)=some d:=by
 intro c d a;match c,a with
 |0,a=>cases a;rw[aa,cb (jd w _)];rfl
 |1,a=>cases a;rw[aa,cb (jd w _)];rfl
 |c+2,a=>simp[l_]at a
theorem yK{w:World}{e b f g:Nat}{i j k h:Int}(m:i=e)(n:j=b)(o:k=f)(l:h=g):∀(c:Nat) (d:Value),(l_ [e,b,f,g])[c]?=some d->(w.alloc (.cells #[.int .u8 i,.int .u8 j,.int .u8 k,.int .u8 h] 5)).cell? ((⟨w.heap.size,0,none⟩:Addr).add c)=some d:=by
 subst m n o l;intro c d a;match c,a with
 |0,a=>cases a;rw[aa,cb (jd w _)];rfl
 |1,a=>cases a;rw[aa,cb (jd w _)];rfl
 |2,a=>cases a;rw[aa,cb (jd w _)];rfl
 |3,a=>cases a;rw[aa,cb (jd w _)];rfl
 |c+4,a=>simp[l_]at a
theorem LY(ad:iR B bf w s q p r)(d:ByteArray)(a6:p.length+4*d.size+2<=500000000) :
  Calls Tryz.prog 183 #[.pointer (some ⟨bf,0,none⟩),.string d] w λh w'=>h=.returned (.tuple #[])/\∃a2,iR B bf w' a2 q (p++mq (bl d)) r/\h_ B bf w w':=by
 obtain⟨J,F,G,H,I⟩:=bu Tryz.infoByte;have HP:=gv (ma ad { data:=#[40] } (by show p.length+1<=_;omega));have HS:Hid (∀C,C<d.size->∃A:C<d.size,(d[C]'A).toNat=nth (bl d) C):=λC A=>⟨A,CI d C A⟩;have ac:Hid (∀c,(mF ((bl d).take c)).length<=4*c+1):=λc=>by
  have:∀K:List Nat,(mF K).length<=4*K.length+1:=λK=>by
   unfold mF;induction K with
   |nil=>simp
   |cons a1 K ih=>have:=qm a1;simp only[cH,ag,ab]at ih ⊢;omega
  have h2:=this ((bl d).take c);rw[ax]at h2;omega
 obtain⟨L,hn⟩:∃L,d.size=L:=⟨_,rfl⟩;have HN:=gv hn;have a9:L<=500000000:=by omega
 clear ad;go_enter Tryz.func183,Tryz.ntmps183;go_wp2_with fail;refine HP.o.mono ?_;rintro h w1 ⟨rfl,a3,h1,k1⟩;have H1:=gv h1;have K1:=gv k1;clear h1 k1 HP;go_wp2_with fail;go_loopw [4,5,11,36,57] (λ_ _ iv _ _ wr=>∃(c:Nat) (a0:Value),c<=L/\iv=.int .i64 (c:Int)/\Hid (iR B bf wr a0 q (p++mF ((bl d).take c)) r)/\Hid (h_ B bf w wr)) (λ_ _ iv _ _ _=>L-(intOf iv).toNat)
 case atStart=>exact⟨0,a3,aE _,rfl,H1.o,K1.o⟩
 case round =>
  obtain⟨c,a0,R,rfl,a,z⟩:=hrel;rcases bN R with R | R
  ·subst R;have a7:=ac.o c;have X:=gv (ma a.o { data:=#[41] } (by rw[ab];show _+1<=_;omega));rw[show(bl d).take c=bl d from aY (by rw[nM,HN.o];exact af _),ak]at X;go_wp2_with fail;refine X.o.mono ?_;rintro h w9 ⟨rfl,a4,h9,k9⟩;have H9:=gv h9;have K9:=gv (z.o.trans k9);clear h9 k9 X;go_wp2
   go_end0
   exact⟨rfl,a4,H9.o,K9.o⟩
  ·obtain⟨A,hb⟩:=HS.o c (by omega);have hx:(bl d)[c]?=some (nth (bl d) c):=by simp[nth,ai (show c<(bl d).length by rw[nM];omega)]
   have ao:mF ((bl d).take (c+1))=mF ((bl d).take c)++jV (nth (bl d) c):=by unfold mF;rw[cP,hx,cx];simp
   have a5:=tP d c A;have a8:(p++mF ((bl d).take c)).length+4<=500000000:=by have h2:=ac.o c;rw[ab];omega
   obtain⟨M,N,rfl⟩:=i_ a.o.oo;have l:=a.o.blk;have E:=gv ao;generalize al:p++mF ((bl d).take c)=m at *;have D:=gv al;clear al ao hx;generalize nth (bl d) c=b at *;have hB:=a.o.bw;have c0:=mb l;have f0:=ix 0 l;by_cases h3:b=40\/b=41\/b=92
   ·have x:Hid (jV b=[92,b]):=by unfold Hid jV;rw[aA h3]
    rcases h3 with h3 | h3 | h3
    ·have t1:((b:Int)==40)=true:=by simp;omega
     clear h3;go_wp2_with (at_builtin;refine pZ _ rfl (.tmp 51) (.tmp 53) 23 rfl B 5 J (.int .u8 0) 1 1 aq F G H I rfl (by decide) _ m.length _ rfl (a.o.oo.alloc _) ⟨wr.heap.size,0,none⟩ 2 2 (l_ [92,b]) rfl rfl ?hnews ?hone ?h63 ?hby ?hbs ?_)
     case hnews=>exact nY
     case hone=>intro S j;simp[l_]at j;rcases j with rfl | rfl<;>rfl
     case h63=>unfold maxLen;omega
     case hby=>omega
     case hbs=>simp;omega
     intro T v g f k;have e:v.heap[bf]?=some (.cells #[.slice M m.length N,q] 122 (0,0)):=by rw[f.block bf (by simp;have:=a.o.lt;omega) (λh=>a.o.ne bf h.symm rfl)];exact l9 _ l
     have i:=gv (a.o.grow ((h_.refl B bf wr).alloc _) (zP a.o.lt) (a.o.oo.alloc _) f (λn t=>(k n t).imp id (λW=>by omega)) g rfl);obtain⟨U,V,u⟩:=i_ g;subst u;have O:=mb e;have P:=ix 0 e;clear g f k e l;go_wp2;go_roundw
     case rel=>exact⟨c+1,_,by omega,by first | rfl | (congr 1),by rw[E.o,<-ak,D.o,x.o];exact i.o.1,z.o.trans i.o.2⟩
     case measure=>simp[intOf];omega
    ·have t1:((b:Int)==40)=false:=by simp;omega
     have t2:((b:Int)==41)=true:=by simp;omega
     clear h3;go_wp2_with (at_builtin;refine pZ _ rfl (.tmp 51) (.tmp 53) 23 rfl B 5 J (.int .u8 0) 1 1 aq F G H I rfl (by decide) _ m.length _ rfl (a.o.oo.alloc _) ⟨wr.heap.size,0,none⟩ 2 2 (l_ [92,b]) rfl rfl ?hnews ?hone ?h63 ?hby ?hbs ?_)
     case hnews=>exact nY
     case hone=>intro S j;simp[l_]at j;rcases j with rfl | rfl<;>rfl
     case h63=>unfold maxLen;omega
     case hby=>omega
     case hbs=>simp;omega
     intro T v g f k;have e:v.heap[bf]?=some (.cells #[.slice M m.length N,q] 122 (0,0)):=by rw[f.block bf (by simp;have:=a.o.lt;omega) (λh=>a.o.ne bf h.symm rfl)];exact l9 _ l
     have i:=gv (a.o.grow ((h_.refl B bf wr).alloc _) (zP a.o.lt) (a.o.oo.alloc _) f (λn t=>(k n t).imp id (λW=>by omega)) g rfl);obtain⟨U,V,u⟩:=i_ g;subst u;have O:=mb e;have P:=ix 0 e;clear g f k e l;go_wp2;go_roundw
     case rel=>exact⟨c+1,_,by omega,by first | rfl | (congr 1),by rw[E.o,<-ak,D.o,x.o];exact i.o.1,z.o.trans i.o.2⟩
     case measure=>simp[intOf];omega
    ·have t1:((b:Int)==40)=false:=by simp;omega
     have t2:((b:Int)==41)=false:=by simp;omega
     have t3:((b:Int)==92)=true:=by simp;omega
     clear h3;go_wp2_with (at_builtin;refine pZ _ rfl (.tmp 51) (.tmp 53) 23 rfl B 5 J (.int .u8 0) 1 1 aq F G H I rfl (by decide) _ m.length _ rfl (a.o.oo.alloc _) ⟨wr.heap.size,0,none⟩ 2 2 (l_ [92,b]) rfl rfl ?hnews ?hone ?h63 ?hby ?hbs ?_)
     case hnews=>exact nY
     case hone=>intro S j;simp[l_]at j;rcases j with rfl | rfl<;>rfl
     case h63=>unfold maxLen;omega
     case hby=>omega
     case hbs=>simp;omega
     intro T v g f k;have e:v.heap[bf]?=some (.cells #[.slice M m.length N,q] 122 (0,0)):=by rw[f.block bf (by simp;have:=a.o.lt;omega) (λh=>a.o.ne bf h.symm rfl)];exact l9 _ l
     have i:=gv (a.o.grow ((h_.refl B bf wr).alloc _) (zP a.o.lt) (a.o.oo.alloc _) f (λn t=>(k n t).imp id (λW=>by omega)) g rfl);obtain⟨U,V,u⟩:=i_ g;subst u;have O:=mb e;have P:=ix 0 e;clear g f k e l;go_wp2;go_roundw
     case rel=>exact⟨c+1,_,by omega,by first | rfl | (congr 1),by rw[E.o,<-ak,D.o,x.o];exact i.o.1,z.o.trans i.o.2⟩
     case measure=>simp[intOf];omega
   ·have t1:((b:Int)==40)=false:=by simp;omega
    have t2:((b:Int)==41)=false:=by simp;omega
    have t3:((b:Int)==92)=false:=by simp;omega
    by_cases Q:32<=b/\b<=126
    ·have x:Hid (jV b=[b]):=by unfold Hid jV;rw[au h3,aA Q]
     have Y:=gv (λZ=>zD (b:Int) 32 126 Z (by omega) (by omega));clear h3 Q;go_wp2_with fail;refine(Y.o _).mono ?_;rintro h w' ⟨rfl,y⟩;have y:=y.symm;subst y;go_wp2_with (at_builtin;refine pZ _ rfl (.tmp 64) (.tmp 66) 23 rfl B 5 J (.int .u8 0) 1 1 aq F G H I rfl (by decide) _ m.length _ rfl (a.o.oo.alloc _) ⟨wr.heap.size,0,none⟩ 1 1 (l_ [b]) rfl rfl ?hnews ?hone ?h63 ?hby ?hbs ?_)
     case hnews=>exact tS
     case hone=>intro S j;simp[l_]at j;subst j;rfl
     case h63=>unfold maxLen;omega
     case hby=>omega
     case hbs=>simp;omega
     intro T v g f k;have e:v.heap[bf]?=some (.cells #[.slice M m.length N,q] 122 (0,0)):=by rw[f.block bf (by simp;have:=a.o.lt;omega) (λh=>a.o.ne bf h.symm rfl)];exact l9 _ l
     have i:=gv (a.o.grow ((h_.refl B bf wr).alloc _) (zP a.o.lt) (a.o.oo.alloc _) f (λn t=>(k n t).imp id (λW=>by omega)) g rfl);obtain⟨U,V,u⟩:=i_ g;subst u;have O:=mb e;have P:=ix 0 e;clear g f k e l;go_wp2;go_roundw
     case rel=>exact⟨c+1,_,by omega,by first | rfl | (congr 1),by rw[E.o,<-ak,D.o,x.o];exact i.o.1,z.o.trans i.o.2⟩
     case measure=>simp[intOf];omega
    ·have x:Hid (jV b=[92,48+b/64,48+b/8%8,48+b%8]):=by unfold Hid jV;rw[au h3,au Q]
     have Y:=gv (λZ=>LM (b:Int) 32 126 Z (by omega));clear h3 Q;go_wp2_with fail;refine(Y.o _).mono ?_;rintro h w' ⟨rfl,y⟩;have y:=y.symm;subst y;go_wp2_with (at_builtin;refine pZ _ rfl (.tmp 21) (.tmp 32) 23 rfl B 5 J (.int .u8 0) 1 1 aq F G H I rfl (by decide) _ m.length _ rfl (a.o.oo.alloc _) ⟨wr.heap.size,0,none⟩ 4 4 (l_ [92,48+b/64,48+b/8%8,48+b%8]) rfl rfl ?hnews ?hone ?h63 ?hby ?hbs ?_)
     case hnews=>exact yK rfl (by omega) (by omega) (by omega)
     case hone=>intro S j;simp[l_]at j;rcases j with rfl | rfl | rfl | rfl<;>rfl
     case h63=>unfold maxLen;omega
     case hby=>omega
     case hbs=>simp;omega
     intro T v g f k;have e:v.heap[bf]?=some (.cells #[.slice M m.length N,q] 122 (0,0)):=by rw[f.block bf (by simp;have:=a.o.lt;omega) (λh=>a.o.ne bf h.symm rfl)];exact l9 _ l
     have i:=gv (a.o.grow ((h_.refl B bf wr).alloc _) (zP a.o.lt) (a.o.oo.alloc _) f (λn t=>(k n t).imp id (λW=>by omega)) g rfl);obtain⟨U,V,u⟩:=i_ g;subst u;have O:=mb e;have P:=ix 0 e;clear g f k e l;go_wp2;go_roundw
     case rel=>exact⟨c+1,_,by omega,by first | rfl | (congr 1),by rw[E.o,<-ak,D.o,x.o];exact i.o.1,z.o.trans i.o.2⟩
     case measure=>simp[intOf];omega
def iE(n:Int):List Nat:=if n<0 then 45::iL n.natAbs else iL n.toNat
def jO(k n:Nat):List Nat:=List.replicate (k-(iL n).length) 48++iL n
theorem iR.below(a:iR B bf w s q p r)(b:Below w.heap.size w w'):iR B bf w' s q p r:=⟨a.hb,by rw[b.block bf a.lt];exact a.blk,vV a.oo b,vV a.po b⟩
theorem yk(a:Nat):bl (gC (iL a))=iL a:=by rw[Gt];unfold bl iL;rfl
theorem yj(a b:ByteArray):bl (a++b)=bl a++bl b:=by unfold bl;simp
theorem ym(k:Nat):bl ⟨(Lib.repeatL [48] k).toArray⟩=List.replicate k 48:=by
 unfold bl;simp only[List.toList_toArray];induction k with
 |zero=>rfl
 |succ k ih=>rw[fL,<-ih];rfl
theorem Af{b:Nat}(g:lD b w)(i:b<=w.heap.size)(n:Int)(e : -9223372036854775808<=n)(f:n<=9223372036854775807):Calls Tryz.prog 97 #[.int .i64 n] w λd w'=>∃c,d=.returned (.string c)/\bl c=iE n/\Below w.heap.size w w':=by
 refine(Tryz.strconv_Itoa n e f w g.pow).mono ?_;rintro d w' ⟨rfl,k,h,rfl⟩;refine⟨_,rfl,?_,bg w k h⟩;unfold bl iE Lib.itoa iL;simp only[List.toList_toArray];by_cases a:n<0;·rw[aA a,aA a];rfl
 ·rw[au a,au a]
theorem Gd{h:Nat}(m:lD h w)(z:h<=w.heap.size)(a k:Nat)(H:a<=9223372036854775807)(D:k<=100) :
  Calls Tryz.prog 133 #[.int .i64 (a:Int),.int .i64 (k:Int)] w λg w'=>∃c,g=.returned (.string c)/\bl c=jO k a/\Below w.heap.size w w':=by
 have i:=gv (io m z a (by omega));have E:(iL a).length<=19:=xo 18 a (by omega);have J:(gC (iL a)).size=(iL a).length:=wR _;have u:=gv (yk a);have v:Hid (jO k a=List.replicate (k-(iL a).length) 48++iL a):=rfl;generalize gC (iL a)=c at *;generalize jO k a=A at *;generalize y:(iL a).length=b at *;have G:max (0:Int) ((k:Int)-(c.size:Int))=((k-b:Nat):Int):=by omega
 have F:IntKind.i64.wrap ((k:Int)-(c.size:Int))=(k:Int)-(b:Int):=by rw[bP];omega
 clear m y;go_enter Tryz.func133,Tryz.ntmps133;go_wp2_with fail;refine i.o.mono ?_;rintro g K ⟨rfl,j⟩;have f:=gv j;clear j i;go_wp2_with fail;rw[show max (0:Int) ((k:Int)-(b:Int))=((k-b:Nat):Int)by omega];refine(Tryz.strings_Repeat { data:=#[48] } (k-b) _ (by omega) (by simp[ByteArray.size];omega)).mono ?_;rintro g L ⟨n,l⟩;obtain⟨d,e⟩:∃d:ByteArray,⟨(Lib.repeatL [48] (k-b)).toArray⟩=d:=⟨_,rfl⟩;have I:d.size<=100:=by rw[<-e];simp[ByteArray.size,Lib.repeatL_length];omega
 have x:Hid (bl d=List.replicate (k-b) 48):=by unfold Hid;rw[<-e];exact ym _
 rw[show({ data:=#[48] }:ByteArray).data.toList=[48]from rfl,e]at n;subst n;have t:=gv (f.o.trans (l.mono f.o.size));have C:¬ 9223372036854775807<d.size+c.size:=by omega
 clear l f e;go_wp2;go_ret;exact⟨_,rfl,by rw[yj,x.o,u.o,v.o],t.o⟩
end
end Go.Proofs.YtgkljcmjnphpeaaGreatDoor
