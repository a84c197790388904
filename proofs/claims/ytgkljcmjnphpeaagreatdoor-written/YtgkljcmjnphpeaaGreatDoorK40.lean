import Derived.Test.YtgkljcmjnphpeaaGreatDoorK39
set_option linter.unusedVariables false
set_option linter.unusedSimpArgs false
set_option maxHeartbeats 1000000
set_option maxRecDepth 100000
namespace Go.Proofs.YtgkljcmjnphpeaaGreatDoor
open Go.RowKit
section
section
variable{o:Nat}
theorem uV:lS [[65]]:=λc e a=>by
 match c,a with
 |0,a=>cases a;exact⟨[],rfl,aE _,λf d=>by cases d⟩
 |c+1,a=>simp at a
theorem lS.free{d:List (List Nat)}(f:lS d)(t:d.length<=4):∀e∈d,lj (gC e)=false:=by
 intro e g;have r:=f.bytes t e g;have v:=f.len e g;obtain⟨h,s,rfl⟩:=cA g;obtain⟨w,p,_,_⟩:=f h _ (ai s);have i:∀a:List Nat,(∀j∈a,j<256)->(a.head?≠some (65+h)\/6<a.length)->decide (gC d[h]=gC a)=false:=λa q c=>by
  refine a_ (λe2=>?_);have k:=z_ (λj u=>(r j u).2) q e2;rcases c with c | c;·exact c (by rw[<-k,p];rfl)
  ·rw[<-k]at c;omega
 unfold lj;have l:=i [76,101,110,103,116,104] (by decide) (Or.inl (by simp;omega));have m:=i [70,105,108,116,101,114] (by decide) (Or.inl (by simp;omega));have n:=i [68,101,99,111,100,101,80,97,114,109,115] (by decide) (Or.inr (by simp));rw[show gC [76,101,110,103,116,104]={ data:=#[76,101,110,103,116,104] }from rfl]at l;rw[show gC [70,105,108,116,101,114]={ data:=#[70,105,108,116,101,114] }from rfl]at m;rw[show gC [68,101,99,111,100,101,80,97,114,109,115]={ data:=#[68,101,99,111,100,101,80,97,114,109,115] }from rfl]at n;rw[l,m,n];rfl
theorem yT{c:ByteArray}(a:lj c=false):jy c=false:=by unfold lj at a;unfold jy;simp only[Bool.or_eq_false_iff]at a ⊢;exact a.1
theorem nL.one{a:gz (VT 11)}(h:nL o a)(c:Nat)(v:c+4<=2000):kG o 1 c a=true:=by
 obtain⟨f,q,r,l,u,e,_,w,_,t,j⟩:=h;have d:a.keys.length<=4:=by omega
 have m:lO a=true:=by unfold lO;rw[f];show lz a=true;unfold lz;rw[e.dict d l,um,aL (show a.text.length<=20000 by omega),aL (show a.filters.length<=4 by omega),dF.2 (λs p=>by rw[e.free d s p];rfl),dF.2 (λg k=>aL (j g k))];rfl
 have i:lX a=true:=by simp[lX,f,q,r]
 unfold kG;rw[m,i,aL (show c+a.items.length<=2000 by omega),a_ (show ¬ (a.kind=8/\1<1)by omega),a_ (show ¬ (a.kind=9/\¬ (1<=a.n/\a.n<=(o:Int)))by omega)];rfl
theorem tI(b:o<=6){a:VT 11}(c:hH o 3 11 a):rG o 52140 4 (⟨7,0,0,[],[a],[[65]],[]⟩:gz (VT 11)):=by have m:=hH.mp b 3 10 c;refine uG (m:=p8 3) (Or.inr ⟨rfl,rfl⟩) (by simp) uV (λe d=>?_);rcases cc.1 d with rfl;exact⟨m.wok,m.few,m.keys,m.len⟩
theorem jT.step(b:o<=6){f:VT 12}(a:jT o f)(d:Nat)(s:d+300<=2000):∃c,kq o 11 d f=some c/\c<=d+85:=by
 have p:pI 3=84:=rfl;have n:pI 2=20:=rfl;rcases a with a | ⟨m,a,rfl⟩ | a
 ·obtain⟨c,e,g⟩:=hH.step b 3 11 a d (by omega);exact⟨c,e,by omega⟩
 ·unfold kq;rw[aA ((tI b a).one d _ (by omega))];obtain⟨c,e,g⟩:=q9 (o:=o) (k:=10) [m] (d+1) (λi h=>by rcases cc.1 h with rfl;exact hH.step b 3 10 a) (by simp;omega);exact⟨c,e,by simp at g;omega⟩
 ·have g:=a.one d (by omega);obtain⟨_,_,_,_,j,_,l,_⟩:=a;unfold kq;rw[show 12-11=1 from rfl,aA g];have r:=cM (pI 2) j;obtain⟨c,e,q⟩:=q9 (o:=o) (k:=10) (gz.items (α:=VT 11) f) (d+(gz.items (α:=VT 11) f).length) (λi h=>hH.step b 2 10 (l i h)) (by omega);exact⟨c,e,by omega⟩
theorem qD(b:o<=6){d:List (VT 12)}(p:0<o)(n:d.length=o)(h:∀a∈d,jT o a)(l:∃a,d[0]?=some a/\kO a=7):kn d 1=true:=by obtain⟨a,i,m⟩:=l;obtain⟨q,e,_⟩:=q9 (o:=o) (k:=11) (c:=85) (c':=300) d d.length (λf j=>jT.step b (h f j)) (by omega);unfold kn;rw[n]at e ⊢;rw[e,aL (show 1<=o/\o<=100 by omega),aL (show(1:Int)<=1/\(1:Int)<=(o:Int)by omega)];have e2:d[((1:Int)-1).toNat]?=some a:=i;rw[e2];have g:gz.kind (α:=VT 11) a=7:=m;simp[g]
end
theorem fo:∀b:List Nat,(∀a∈b,qQ a)->∃c:List nU,b=c.map λd=>d.1
 | [],_=>⟨[],rfl⟩
 |a::b,e=>by obtain⟨c,f⟩:=fo b (λd g=>e d (aV _ g));exact⟨⟨a,e a (aQ ..)⟩::c,cq (List.cons a) f⟩
section
section
variable{o:Nat}
theorem nL.sok(a:o<=6){c:gz (VT 11)}(e:nL o c):∃b,vZ 9 c b/\b.length<=3:=by
 obtain⟨v,w,x,g,t,h,l,u,j,r,f⟩:=e;obtain⟨b,d⟩:=fo c.filters f;have s:b.length=c.filters.length:=by rw[d,av]
 exact⟨b,⟨d,by omega,j,λq m=>(hH.mp a 2 10 (l q m)).wok,λn i p k=>(h.bytes (by omega) n i p k).2,g,by omega⟩,by omega⟩
theorem nL.wl(a:o<=6){b:gz (VT 11)}(d:nL o b):ii (k:=12) b<=13132:=by obtain⟨t,u,v,q,g,f,h,r,s,p,n⟩:=d;show 100+4*b.text.length+(b.items.map λc=>10+ii (k:=11) c).sum+(b.keys.map λe=>10+3*e.length).sum<=_;have j:(b.items.map λc=>10+ii (k:=11) c).sum<=4*(10+3180):=qN (λc d=>by have m:ii (k:=11) c<=p8 2:=(hH.mp a 2 10 (h c d)).len;have i:p8 2=3180:=rfl;omega) g;have l:(b.keys.map λe=>10+3*e.length).sum<=4*28:=qN (λe d=>by have:=f.len e d;omega) (by omega);omega
theorem jT.wl(a:o<=6){c:VT 12}(b:jT o c):ii (k:=12) c<=13132:=by
 have e:p8 3=12972:=rfl;rcases b with b | ⟨d,b,rfl⟩ | b
 ·have:=(hH.mp a 3 11 b).len;exact aD this (by omega)
 ·have:=(hH.mp a 3 10 b).len;have f:ii (k:=11) d<=12972:=by rw[<-e];exact this
  show 100+4*0+(10+ii (k:=11) d+0)+(10+3*1+0)<=_;omega
 ·exact nL.wl a b
theorem jT.ok(a:o<=6){c:VT 12}(b:jT o c):qy 65535 9 c:=by
 have d:=jT.wl a b;have h:∀{c:VT 12} {f:Nat},gz.kind (α:=VT 11) c≠8->rG o f 4 (show gz (VT 11)from c)->ii (k:=12) c<=13132->qy 65535 9 c:=λe f d=>⟨λb=>absurd b e,λ_=>f.wok,aD d (by omega)⟩;rcases b with b | ⟨n,b,rfl⟩ | b;·exact h (hH.kind b) (hH.mp a 3 11 b) d
 ·exact h (by show 7≠8;omega) (tI a b) d
 ·obtain⟨g,l,j⟩:=nL.sok a b;have m:=b.2.2.2.2.2.2.2.1;refine⟨λ_=>⟨g,l,?_,aD m (by omega)⟩,λe=>absurd b.1 e,aD d (by omega)⟩;have i:2^g.length<=2^3:=cy (by omega) j;have h3:=Nat.mul_le_mul i (show(gz.text (α:=VT 11) c).length+36<=76 by omega);omega
theorem jT.few(a:o<=6){e:VT 12}(b:jT o e):ph e/\KO e:=by
 rcases b with b | ⟨d,b,rfl⟩ | b
 ·have c:=hH.mp a 3 11 b;exact⟨c.few,c.keys⟩
 ·have c:=tI a b;exact⟨c.few,c.keys⟩
 ·obtain⟨n,p,q,i,k,j,f,l,m,h,g⟩:=b;exact⟨⟨by omega,by omega,by omega,λd b=>(hH.mp a 2 10 (f d b)).few⟩,Or.inr (by omega),λd b=>(hH.mp a 2 10 (f d b)).keys⟩
theorem nL.st(a:o<=6){c:gz (VT 11)}(b:nL o c):oS c:=by obtain⟨p,q,r,f,l,d,h,m,n,k,e⟩:=b;exact⟨f,d.bytes (by omega),λi g=>yT (d.free (by omega) i g),λj b=>hH.rt a 2 11 (h j b),e⟩
theorem jT.rt(a:o<=6){c:VT 12}(b:jT o c)(d:kO c≠8):kL c:=by
 rcases b with b | ⟨f,b,rfl⟩ | b;·exact hH.rt a 3 12 b
 ·exact Or.inr (Or.inr (Or.inr (Or.inr (Or.inr (Or.inr (Or.inr (Or.inl ⟨[[65]],[f],rfl,by decide,λg e=>(by rcases cc.1 e with rfl;exact hH.rt a 3 11 b),rfl⟩)))))))
 ·exact absurd b.1 d
end
end
end
section
variable{B br bd off cap:Nat}{d:List Nat}{most:Nat}{w:World}{p:Nat}{f:Value}{out:List Nat}
theorem rn(a:Rd B br bd off cap d most w p f out)(b:Nat)(n:b<=1000000)(o:most<out.length+b) :
  Calls Tryz.prog 276 #[.pointer (some ⟨br,0,none⟩),.int .i64 b] w λg i=>g=gU 6/\∃h,i=w.drewN h:=by
 unfold gU;have e:=a.c2;have m:=a.c3;have k:=a.lm;have l:=a.lo;obtain⟨j,q,c⟩:=i_ a.own;rw[c]at e;clear c;go_enter Tryz.func276,Tryz.ntmps276;go_wp2_with fail;go_quiet ((go_at_call 63;exact cZ (sF _ _ _ _ (Or.inr (by omega)))));go_wp2;exact⟨rfl,rfl,_,rfl⟩
theorem ze(i:Rd B br bd off cap d most w p f out)(a:Nat)(g:Option Addr)(h:Nat)(j:a<=1000000)(k:most<out.length+a) :
  Calls Tryz.prog 213 #[.pointer (some ⟨br,0,none⟩),.slice g a h] w λc l=>c=gU 6/\∃b,l=w.drewN b:=by
 have e:=gv (rn i a j k);go_enter Tryz.func213,Tryz.ntmps213;go_wp2_with fail;refine e.o.mono ?_;rintro c m ⟨rfl,b,rfl⟩;exact⟨rfl,rfl,b,rfl⟩
theorem JA(b:Bool)(c:b=false)(w:World):Calls Tryz.prog 163 #[.bool b] w λa e=>a=.panicked [{ v:=.iface 58 (.int .i64 5),recovered:=false }]/\e=w:=by subst c;exact Jv w
def EJ(br:Nat)(b:Value)(p:Nat)(c:Array Bool)(a:World):Prop:=a.cell? ⟨br,0,none⟩=some b/\a.cell? ⟨br,1,none⟩=some (.int .i64 p)
theorem GG(i:Rd B br bd off cap d most w p f out)(j:Nat)(y:j<=1000000)(z:d.length<p+j) :
  Calls Tryz.prog 164 #[.pointer (some ⟨br,0,none⟩),.int .i64 j] w λk r=>k=gU 5/\∃n,r=w.drewN n:=by
 unfold gU;have l:=i.c0;have m:=i.c1;have t:=i.cp;have u:=i.lc;have v:=i.lp;have q:Hid (decide ((j:Int)<=IntKind.i64.wrap ((d.length:Int)-(p:Int)))=false):=by unfold Hid;rw[bP];simp;omega
 go_enter Tryz.func164,Tryz.ntmps164;go_wp2_with fail;refine p7 (EJ br (.slice (some ⟨bd,off,none⟩) d.length cap) p) (by kernel_rfl) ?_;intro a;have b:EJ br (.slice (some ⟨bd,off,none⟩) d.length cap) p (Array.replicate 13 false) w.drew:=⟨l,m⟩;refine tk 0 ?_ a ?_ b ?_;rotate_left;·intro e c;obtain⟨_,_,_,g,h⟩:=c;go_simp;try(with_reducible rfl)
 clear a b;intro a b;(try simp only[iU])
 refine tk 1 ?_ a ?_ b ?_;rotate_left;·intro e c;obtain⟨_,_,_,g,h⟩:=c;go_simp;try(with_reducible rfl)
 clear a b;intro a b;(try simp only[iU])
 refine tk 2 ?_ a ?_ b ?_;rotate_left;·intro e c;obtain⟨_,_,_,g,h⟩:=c;go_simp;try(with_reducible rfl)
 clear a b;intro a b;(try simp only[iU])
 refine tk 3 ?_ a ?_ b ?_;rotate_left;·intro e c;obtain⟨_,_,_,g,h⟩:=c;go_simp;try(with_reducible rfl)
 clear a b;intro a b;(try simp only[iU])
 refine tk 4 ?_ a ?_ b ?_;rotate_left;·intro e c;obtain⟨_,_,_,g,h⟩:=c;go_simp;try(with_reducible rfl)
 clear a b;intro a b;(try simp only[iU])
 refine tk 5 ?_ a ?_ b ?_;rotate_left;·intro e c;obtain⟨_,_,_,g,h⟩:=c;go_simp;try(with_reducible rfl)
 clear a b;intro a b;(try simp only[iU])
 refine tk 6 ?_ a ?_ b ?_;rotate_left;·intro e c;obtain⟨_,_,_,g,h⟩:=c;go_simp;try(with_reducible rfl)
 clear a b;intro a b;(try simp only[iU])
 refine tk 7 ?_ a ?_ b ?_;rotate_left;·intro e c;obtain⟨_,_,_,g,h⟩:=c;go_simp;try(with_reducible rfl)
 clear a b;intro a b;(try simp only[iU])
 refine tk 8 ?_ a ?_ b ?_;rotate_left;·intro e c;obtain⟨_,_,_,g,h⟩:=c;go_simp;try(with_reducible rfl)
 clear a b;intro a b;(try simp only[iU])
 refine tk 9 ?_ a ?_ b ?_;rotate_left;·intro e c;obtain⟨_,_,_,g,h⟩:=c;go_simp;try(with_reducible rfl)
 clear a b;intro a b;(try simp only[iU])
 refine tk 10 ?_ a ?_ b ?_;rotate_left;·intro e c;obtain⟨_,_,_,g,h⟩:=c;go_simp;try(with_reducible rfl)
 clear a b;intro a b;(try simp only[iU])
 refine tk 11 ?_ a ?_ b ?_;rotate_left;·intro e c;obtain⟨_,_,_,g,h⟩:=c;go_simp;try(with_reducible rfl)
 clear a b;intro a b;(try simp only[iU])
 refine on 12 a λs x=>?_;go_simp;refine(JA _ q.o _).mono ?_;rintro k A ⟨rfl,rfl⟩;exact⟨rfl,rfl,1,rfl⟩
def s6(c B br bd off cap:Nat)(d:List Nat)(most p:Nat)(out:List Nat)(b:Bool)(i:Nat)(g:List Nat):Prop:=
 ∀(w:World) (f:Value),Rd B br bd off cap d most w p f out->Calls Tryz.prog c #[.pointer (some ⟨br,0,none⟩)] w λe a=>e=.returned (.bool b)/\∃h,Rd B br bd off cap d most a i h g/\gD 5 B [br] w a
def ue(a B br bd off cap:Nat)(d:List Nat)(most p:Nat)(out:List Nat)(c:Int):Prop:=
 ∀(w:World) (f:Value),Rd B br bd off cap d most w p f out->Calls Tryz.prog a #[.pointer (some ⟨br,0,none⟩)] w λb e=>b=gU c/\gD 5 B [br] w e
structure PC(F B br bd off cap:Nat)(d:List Nat)(most K:Nat)(pos:Nat->Nat)(outs:Nat->List Nat):Prop where
 go:∀k,k<K->s6 F B br bd off cap d most (pos k) (outs k) true (pos (k+1)) (outs (k+1))
 up:∀k,k<K->pos k<pos (k+1)
theorem Ih(i:Nat->List Nat->Prop){b:List Nat}(o:∀a out,i a out->out.length<=most->(∃g s,a<g/\i g s/\s6 157 B br bd off cap d most a out true g s)\/s6 157 B br bd off cap d most a out false d.length b)(A:i p out)(z:Rd B br bd off cap d most w p f out) :
  Calls Tryz.prog 114 #[.pointer (some ⟨br,0,none⟩)] w λc u=>c=.returned (.tuple #[])/\∃j,Rd B br bd off cap d most u d.length j b/\gD 5 B [br] w u:=by
 have y:=gv o;clear o;go_enter Tryz.func114,Tryz.ntmps114;go_wp2;go_loopw [2] (λ_ wr=>∃(a:Nat) (b:List Nat) (j:Value),Hid (i a b)/\Rd B br bd off cap d most wr a j b/\gD 5 B [br] w wr) (λ_ wr=>d.length-posOf br wr)
 case atStart=>exact⟨p,out,f,A,z,gD.refl _ _ _ _⟩
 case round =>
  obtain⟨a,b,j,v,r,q⟩:=hrel;have E:=gv r.posOf;rcases y.o a b v.o r.lo with⟨g,F,H,n,e⟩ | e
  ·have k:=gv e;have x:=gv n;clear e n;go_wp2_with fail;refine(k.o _ _ r).mono ?_;rintro c G ⟨rfl,m,h,l⟩;have D:=gv h.posOf;have I:=h.lp;go_wp2;go_roundw
   case rel=>exact⟨g,F,m,x,h,q.trans l⟩
   case measure=>rw[E.o,D.o];omega
  ·have k:=gv e;clear e;go_wp2_with fail;refine(k.o _ _ r).mono ?_;rintro c G ⟨rfl,m,h,l⟩;go_wp2_with fail;refine(Ba h).mono ?_;rintro c J ⟨rfl,t,C⟩;go_wp2_with fail;refine(eo t).mono ?_;rintro c K ⟨rfl,a,rfl⟩;go_wp2
   go_end0
   exact⟨rfl,m,t.drewN a,((q.trans l).trans C).drewN a⟩
theorem Aq(e:Nat->List Nat->Prop){o:Int}(m:∀a out,e a out->out.length<=most->(∃c q,a<c/\e c q/\s6 157 B br bd off cap d most a out true c q)\/ue 157 B br bd off cap d most a out o)(y:e p out)(x:Rd B br bd off cap d most w p f out) :
  Calls Tryz.prog 114 #[.pointer (some ⟨br,0,none⟩)] w λi E=>i=gU o/\gD 5 B [br] w E:=by
 have v:=gv m;clear m;go_enter Tryz.func114,Tryz.ntmps114;go_wp2;go_loopw [2] (λ_ wr=>∃(a:Nat) (g:List Nat) (s:Value),Hid (e a g)/\Rd B br bd off cap d most wr a s g/\gD 5 B [br] w wr) (λ_ wr=>d.length-posOf br wr)
 case atStart=>exact⟨p,out,f,y,x,gD.refl _ _ _ _⟩
 case round =>
  obtain⟨a,g,s,t,r,n⟩:=hrel;have A:=gv r.posOf;rcases v.o a g t.o r.lo with⟨c,C,G,l,b⟩ | b
  ·have h:=gv b;have u:=gv l;clear b l;go_wp2_with fail;refine(h.o _ _ r).mono ?_;rintro i F ⟨rfl,D,k,j⟩;have z:=gv k.posOf;have H:=k.lp;go_wp2;go_roundw
   case rel=>exact⟨c,C,D,u,k,n.trans j⟩
   case measure=>rw[A.o,z.o];omega
  ·have h:=gv b;clear b;go_wp2_with fail;refine(h.o _ _ r).mono ?_;rintro i F ⟨rfl,j⟩;exact⟨rfl,rfl,n.trans j⟩
theorem Iu(h:Nat->List Nat->Prop){b:List Nat}(o:∀a out,h a out->out.length<=most->(∃e s,a<e/\h e s/\s6 158 B br bd off cap d most a out true e s)\/s6 158 B br bd off cap d most a out false d.length b)(C:h p out)(A:Rd B br bd off cap d most w p f out) :
  Calls Tryz.prog 115 #[.pointer (some ⟨br,0,none⟩)] w λi u=>i=.returned (.tuple #[])/\∃j,Rd B br bd off cap d most u d.length j b/\gD 5 B [br] w u:=by
 have z:=gv o;clear o;go_enter Tryz.func115,Tryz.ntmps115;go_wp2;go_loopw [2] (λ_ wr=>∃(a:Nat) (b:List Nat) (j:Value),Hid (h a b)/\Rd B br bd off cap d most wr a j b/\gD 5 B [br] w wr) (λ_ wr=>d.length-posOf br wr)
 case atStart=>exact⟨p,out,f,C,A,gD.refl _ _ _ _⟩
 case round =>
  obtain⟨a,b,j,x,r,q⟩:=hrel;have F:=gv r.posOf;rcases z.o a b x.o r.lo with⟨e,G,H,n,c⟩ | c
  ·have k:=gv c;have y:=gv n;clear c n;go_wp2_with fail;refine(k.o _ _ r).mono ?_;rintro i v ⟨rfl,m,g,l⟩;have E:=gv g.posOf;have I:=g.lp;go_wp2;go_roundw
   case rel=>exact⟨e,G,m,y,g,q.trans l⟩
   case measure=>rw[F.o,E.o];omega
  ·have k:=gv c;clear c;go_wp2_with fail;refine(k.o _ _ r).mono ?_;rintro i v ⟨rfl,m,g,l⟩;have t:=g;have D:=gD.refl 5 B [br] v;go_wp2_with fail;refine(eo t).mono ?_;rintro i J ⟨rfl,a,rfl⟩;go_wp2
   go_end0
   exact⟨rfl,m,t.drewN a,((q.trans l).trans D).drewN a⟩
theorem Au(e:Nat->List Nat->Prop){o:Int}(m:∀a out,e a out->out.length<=most->(∃c q,a<c/\e c q/\s6 158 B br bd off cap d most a out true c q)\/ue 158 B br bd off cap d most a out o)(y:e p out)(x:Rd B br bd off cap d most w p f out) :
  Calls Tryz.prog 115 #[.pointer (some ⟨br,0,none⟩)] w λi E=>i=gU o/\gD 5 B [br] w E:=by
 have v:=gv m;clear m;go_enter Tryz.func115,Tryz.ntmps115;go_wp2;go_loopw [2] (λ_ wr=>∃(a:Nat) (g:List Nat) (s:Value),Hid (e a g)/\Rd B br bd off cap d most wr a s g/\gD 5 B [br] w wr) (λ_ wr=>d.length-posOf br wr)
 case atStart=>exact⟨p,out,f,y,x,gD.refl _ _ _ _⟩
 case round =>
  obtain⟨a,g,s,t,r,n⟩:=hrel;have A:=gv r.posOf;rcases v.o a g t.o r.lo with⟨c,C,G,l,b⟩ | b
  ·have h:=gv b;have u:=gv l;clear b l;go_wp2_with fail;refine(h.o _ _ r).mono ?_;rintro i F ⟨rfl,D,k,j⟩;have z:=gv k.posOf;have H:=k.lp;go_wp2;go_roundw
   case rel=>exact⟨c,C,D,u,k,n.trans j⟩
   case measure=>rw[A.o,z.o];omega
  ·have h:=gv b;clear b;go_wp2_with fail;refine(h.o _ _ r).mono ?_;rintro i F ⟨rfl,j⟩;exact⟨rfl,rfl,n.trans j⟩
theorem Ip{a:Nat}{h:Nat->Nat}{e:Nat->List Nat}(m:PC 154 B br bd off cap d most a h e){s:List Nat}(n:s6 154 B br bd off cap d most (h a) (e a) false d.length s)(z:Rd B br bd off cap d most w (h 0) f (e 0)) :
  Calls Tryz.prog 113 #[.pointer (some ⟨br,0,none⟩)] w λb v=>b=.returned (.tuple #[])/\∃g,Rd B br bd off cap d most v d.length g s/\gD 5 B [br] w v:=by
 have l:=gv m;have x:=gv n;clear m n;go_enter Tryz.func113,Tryz.ntmps113;go_wp2;go_loopw [3] (λ_ wr=>∃(k:Nat) (g:Value),k<=a/\Rd B br bd off cap d most wr (h k) g (e k)/\gD 5 B [br] w wr) (λ_ wr=>d.length-posOf br wr)
 case atStart=>exact⟨0,f,aE _,z,gD.refl _ _ _ _⟩
 case round =>
  obtain⟨k,g,F,r,q⟩:=hrel;have D:=gv r.posOf;by_cases o:k<a
  ·have y:=gv (l.o.go k o);have G:=l.o.up k o;go_wp2_with fail;refine(y.o _ _ r).mono ?_;rintro b E ⟨rfl,j,c,i⟩;have C:=gv c.posOf;have H:=c.lp;go_wp2;go_roundw
   case rel=>exact⟨k+1,j,by omega,c,q.trans i⟩
   case measure=>rw[D.o,C.o];omega
  ·obtain rfl:k=a:=by omega
   go_wp2_with fail;refine(x.o _ _ r).mono ?_;rintro b E ⟨rfl,j,c,i⟩;go_wp2_with fail;refine(Ba c).mono ?_;rintro b I ⟨rfl,u,A⟩;go_wp2_with fail;refine(eo u).mono ?_;rintro b J ⟨rfl,t,rfl⟩;go_wp2
   go_end0
   exact⟨rfl,j,u.drewN t,((q.trans i).trans A).drewN t⟩
theorem Fd{K:Nat}{pos:Nat->Nat}{outs:Nat->List Nat}(g:PC 154 B br bd off cap d most K pos outs){l:Int}(h:ue 154 B br bd off cap d most (pos K) (outs K) l)(s:Rd B br bd off cap d most w (pos 0) f (outs 0)) :
  Calls Tryz.prog 113 #[.pointer (some ⟨br,0,none⟩)] w λa x=>a=gU l/\gD 5 B [br] w x:=by
 have e:=gv g;have n:=gv h;clear g h;go_enter Tryz.func113,Tryz.ntmps113;go_wp2;go_loopw [3] (λ_ wr=>∃(k:Nat) (m:Value),k<=K/\Rd B br bd off cap d most wr (pos k) m (outs k)/\gD 5 B [br] w wr) (λ_ wr=>d.length-posOf br wr)
 case atStart=>exact⟨0,f,aE _,s,gD.refl _ _ _ _⟩
 case round =>
  obtain⟨k,m,z,r,j⟩:=hrel;have u:=gv r.posOf;by_cases i:k<K
  ·have q:=gv (e.o.go k i);have A:=e.o.up k i;go_wp2_with fail;refine(q.o _ _ r).mono ?_;rintro a y ⟨rfl,v,c,b⟩;have t:=gv c.posOf;have C:=c.lp;go_wp2;go_roundw
   case rel=>exact⟨k+1,v,by omega,c,j.trans b⟩
   case measure=>rw[u.o,t.o];omega
  ·obtain rfl:k=K:=by omega
   go_wp2_with fail;refine(n.o _ _ r).mono ?_;rintro a y ⟨rfl,b⟩;exact⟨rfl,rfl,j.trans b⟩
theorem I1{c:List Nat}(e:Rd w.heap.size w.heap.size bd off cap d most (w.alloc (.cells #[.slice (some ⟨bd,off,none⟩) d.length cap,.int .i64 0,.slice none 0 0,.int .i64 most] 141 (0,0))) 0 (.slice none 0 0) [])
  (g:∀(w:World) (br B:Nat) (f:Value),Rd B br bd off cap d most w 0 f []->Calls Tryz.prog 113 #[.pointer (some ⟨br,0,none⟩)] w λb a=>b=.returned (.tuple #[])/\∃l,Rd B br bd off cap d most a d.length l c/\gD 5 B [br] w a) :
  Calls Tryz.prog 80 #[.int .i64 1,.slice (some ⟨bd,off,none⟩) d.length cap,.int .i64 most] w λb a=>∃i,b=.returned i/\a.ownsRow w.heap.size 5 1 i c.length (c.map λm:Nat=>.int .u8 (m:Int))/\Below w.heap.size w a:=by
 have j:=gv (g _ _ _ _ e);clear e g;go_enter eX,eJ;go_wp2_with fail;refine j.o.mono ?_;rintro b q ⟨rfl,f,h,k⟩;have n:=h.c2;go_wp2;go_ret;exact⟨f,rfl,h.own,wC k⟩
theorem Fq{g:Int}(c:Rd w.heap.size w.heap.size bd off cap d most (w.alloc (.cells #[.slice (some ⟨bd,off,none⟩) d.length cap,.int .i64 0,.slice none 0 0,.int .i64 most] 141 (0,0))) 0 (.slice none 0 0) [])
  (e:∀(w:World) (br B:Nat) (f:Value),Rd B br bd off cap d most w 0 f []->Calls Tryz.prog 113 #[.pointer (some ⟨br,0,none⟩)] w λa b=>a=gU g/\gD 5 B [br] w b) :
  Calls Tryz.prog 80 #[.int .i64 1,.slice (some ⟨bd,off,none⟩) d.length cap,.int .i64 most] w λa b=>a=gU g/\Below w.heap.size w b:=by
 have h:=gv (e _ _ _ _ c);clear c e;go_enter eX,eJ;go_wp2_with fail;refine h.o.mono ?_;rintro a j ⟨rfl,i⟩;exact⟨rfl,rfl,wC i⟩
theorem I5{c:List Nat}(e:Rd w.heap.size w.heap.size bd off cap d most (w.alloc (.cells #[.slice (some ⟨bd,off,none⟩) d.length cap,.int .i64 0,.slice none 0 0,.int .i64 most] 141 (0,0))) 0 (.slice none 0 0) [])
  (g:∀(w:World) (br B:Nat) (f:Value),Rd B br bd off cap d most w 0 f []->Calls Tryz.prog 114 #[.pointer (some ⟨br,0,none⟩)] w λb a=>b=.returned (.tuple #[])/\∃l,Rd B br bd off cap d most a d.length l c/\gD 5 B [br] w a) :
  Calls Tryz.prog 80 #[.int .i64 2,.slice (some ⟨bd,off,none⟩) d.length cap,.int .i64 most] w λb a=>∃i,b=.returned i/\a.ownsRow w.heap.size 5 1 i c.length (c.map λm:Nat=>.int .u8 (m:Int))/\Below w.heap.size w a:=by
 have j:=gv (g _ _ _ _ e);clear e g;go_enter eX,eJ;go_wp2_with fail;refine j.o.mono ?_;rintro b q ⟨rfl,f,h,k⟩;have n:=h.c2;go_wp2;go_ret;exact⟨f,rfl,h.own,wC k⟩
theorem Ft{g:Int}(c:Rd w.heap.size w.heap.size bd off cap d most (w.alloc (.cells #[.slice (some ⟨bd,off,none⟩) d.length cap,.int .i64 0,.slice none 0 0,.int .i64 most] 141 (0,0))) 0 (.slice none 0 0) [])
  (e:∀(w:World) (br B:Nat) (f:Value),Rd B br bd off cap d most w 0 f []->Calls Tryz.prog 114 #[.pointer (some ⟨br,0,none⟩)] w λa b=>a=gU g/\gD 5 B [br] w b) :
  Calls Tryz.prog 80 #[.int .i64 2,.slice (some ⟨bd,off,none⟩) d.length cap,.int .i64 most] w λa b=>a=gU g/\Below w.heap.size w b:=by
 have h:=gv (e _ _ _ _ c);clear c e;go_enter eX,eJ;go_wp2_with fail;refine h.o.mono ?_;rintro a j ⟨rfl,i⟩;exact⟨rfl,rfl,wC i⟩
theorem I4{c:List Nat}(e:Rd w.heap.size w.heap.size bd off cap d most (w.alloc (.cells #[.slice (some ⟨bd,off,none⟩) d.length cap,.int .i64 0,.slice none 0 0,.int .i64 most] 141 (0,0))) 0 (.slice none 0 0) [])
  (g:∀(w:World) (br B:Nat) (f:Value),Rd B br bd off cap d most w 0 f []->Calls Tryz.prog 115 #[.pointer (some ⟨br,0,none⟩)] w λb a=>b=.returned (.tuple #[])/\∃l,Rd B br bd off cap d most a d.length l c/\gD 5 B [br] w a) :
  Calls Tryz.prog 80 #[.int .i64 3,.slice (some ⟨bd,off,none⟩) d.length cap,.int .i64 most] w λb a=>∃i,b=.returned i/\a.ownsRow w.heap.size 5 1 i c.length (c.map λm:Nat=>.int .u8 (m:Int))/\Below w.heap.size w a:=by
 have j:=gv (g _ _ _ _ e);clear e g;go_enter eX,eJ;go_wp2_with fail;refine j.o.mono ?_;rintro b q ⟨rfl,f,h,k⟩;have n:=h.c2;go_wp2;go_ret;exact⟨f,rfl,h.own,wC k⟩
theorem AD{g:Int}(c:Rd w.heap.size w.heap.size bd off cap d most (w.alloc (.cells #[.slice (some ⟨bd,off,none⟩) d.length cap,.int .i64 0,.slice none 0 0,.int .i64 most] 141 (0,0))) 0 (.slice none 0 0) [])
  (e:∀(w:World) (br B:Nat) (f:Value),Rd B br bd off cap d most w 0 f []->Calls Tryz.prog 115 #[.pointer (some ⟨br,0,none⟩)] w λa b=>a=gU g/\gD 5 B [br] w b) :
  Calls Tryz.prog 80 #[.int .i64 3,.slice (some ⟨bd,off,none⟩) d.length cap,.int .i64 most] w λa b=>a=gU g/\Below w.heap.size w b:=by
 have h:=gv (e _ _ _ _ c);clear c e;go_enter eX,eJ;go_wp2_with fail;refine h.o.mono ?_;rintro a j ⟨rfl,i⟩;exact⟨rfl,rfl,wC i⟩
theorem CX{c:List Nat}(e:Rd w.heap.size w.heap.size bd off cap d most (w.alloc (.cells #[.slice (some ⟨bd,off,none⟩) d.length cap,.int .i64 0,.slice none 0 0,.int .i64 most] 141 (0,0))) 0 (.slice none 0 0) [])
  (g:∀(w:World) (br B:Nat) (f:Value),Rd B br bd off cap d most w 0 f []->Calls Tryz.prog 116 #[.pointer (some ⟨br,0,none⟩)] w λb a=>b=.returned (.tuple #[])/\∃l,Rd B br bd off cap d most a d.length l c/\gD 5 B [br] w a) :
  Calls Tryz.prog 80 #[.int .i64 4,.slice (some ⟨bd,off,none⟩) d.length cap,.int .i64 most] w λb a=>∃i,b=.returned i/\a.ownsRow w.heap.size 5 1 i c.length (c.map λm:Nat=>.int .u8 (m:Int))/\Below w.heap.size w a:=by
 have j:=gv (g _ _ _ _ e);clear e g;go_enter eX,eJ;go_wp2_with fail;refine j.o.mono ?_;rintro b q ⟨rfl,f,h,k⟩;have n:=h.c2;go_wp2;go_ret;exact⟨f,rfl,h.own,wC k⟩
theorem Fu{g:Int}(c:Rd w.heap.size w.heap.size bd off cap d most (w.alloc (.cells #[.slice (some ⟨bd,off,none⟩) d.length cap,.int .i64 0,.slice none 0 0,.int .i64 most] 141 (0,0))) 0 (.slice none 0 0) [])
  (e:∀(w:World) (br B:Nat) (f:Value),Rd B br bd off cap d most w 0 f []->Calls Tryz.prog 116 #[.pointer (some ⟨br,0,none⟩)] w λa b=>a=gU g/\gD 5 B [br] w b) :
  Calls Tryz.prog 80 #[.int .i64 4,.slice (some ⟨bd,off,none⟩) d.length cap,.int .i64 most] w λa b=>a=gU g/\Below w.heap.size w b:=by
 have h:=gv (e _ _ _ _ c);clear c e;go_enter eX,eJ;go_wp2_with fail;refine h.o.mono ?_;rintro a j ⟨rfl,i⟩;exact⟨rfl,rfl,wC i⟩
theorem Ds(c:Rd B br bd off cap d most w d.length f out) :
  Calls Tryz.prog 214 #[.pointer (some ⟨br,0,none⟩)] w λa g=>a=gU 5/\gD 5 B [br] w g:=by
 have b:=gv (GG c 1 (by omega) (by omega));go_enter Tryz.func214,Tryz.ntmps214;go_wp2_with fail;refine b.o.mono ?_;rintro a h ⟨rfl,e,rfl⟩;exact⟨rfl,rfl,(gD.refl _ _ _ _).drewN e⟩
theorem JD(b:Rd B br bd off cap d most w d.length f out) :
  Calls Tryz.prog 211 #[.pointer (some ⟨br,0,none⟩)] w λa h=>a=gU 5/\gD 5 B [br] w h:=by
 go_enter Tryz.func211,Tryz.ntmps211;go_wp2_with fail;refine(Ba b).mono ?_;rintro a i ⟨rfl,g,c⟩;go_wp2_with fail;refine(Ds g).mono ?_;rintro a j ⟨rfl,e⟩;exact⟨rfl,rfl,c.trans e⟩
theorem I9:ue 154 B br bd off cap d most d.length out 5:=by intro w f a;go_enter Tryz.func154,gj;go_wp2_with fail;refine(JD a).mono ?_;rintro c e ⟨rfl,b⟩;exact⟨rfl,rfl,b⟩
theorem C4(a b:Nat)(h:a<16)(i:b<16)(l:p+1<d.length)(e:nth d p=gP a)(g:nth d (p+1)=gP b)(k:most<out.length+1):ue 154 B br bd off cap d most p out 6:=by
 intro w f j;have q:lM (nth d p)=false:=by rw[e];exact nJ a h
 have r:lM (nth d (p+1))=false:=by rw[g];exact nJ b i
 have v:Hid (iQ (nth d p)=some a):=by rw[e];exact mQ a h
 have x:Hid (iQ (nth d (p+1))=some b):=by rw[g];exact mQ b i
 have e1:((nth d p:Int)==62)=false:=by rw[e];have:=nE a h;simp;omega
 have e2:((nth d (p+1):Int)==62)=false:=by rw[g];have:=nE b i;simp;omega
 clear e g;go_enter Tryz.func154,gj;go_wp2_with fail;refine(sM j (by omega) q).mono ?_;rintro c z ⟨rfl,t,m⟩;go_wp2_with fail;refine(wy _ _ _ v.o).mono ?_;rintro c y ⟨rfl,rfl⟩;go_wp2_with fail;refine(sM t l r).mono ?_;rintro c A ⟨rfl,u,n⟩;go_wp2_with fail;refine(wy _ _ _ x.o).mono ?_;rintro c y ⟨rfl,rfl⟩;go_wp2_with fail;refine(ze (u.alloc _) 1 _ 1 (by omega) k).mono ?_;rintro c C ⟨rfl,s,rfl⟩;exact⟨rfl,rfl,((m.trans n).alloc _).drewN s⟩
theorem Ja(a b:Nat)(h:a<16)(i:b<16)(k:p+1<d.length)(e:nth d p=gP a)(g:nth d (p+1)=gP b)(j:out.length+1<=most):s6 154 B br bd off cap d most p out true (p+2) (out++[16*a+b]):=
 λw f c=>Fz c a b h i k e g j
theorem FG{a e:List Nat}(h:d=iH a++e)(k:Nat)(c:k<a.length):nth d (2*k)=gP (nth a k/16)/\nth d (2*k+1)=gP (nth a k%16):=by
 have g:a=a.take k++(nth a k::a.drop (k+1)):=by
  have:nth a k=a[k]:=by simp[nth,c]
  rw[this,<-bU c,cI]
 have e2:d=iH (a.take k)++(gP (nth a k/16)::gP (nth a k%16)::(iH (a.drop (k+1))++e)):=by
  rw[h];conv=>lhs;rw[g]
  rw[mW,mP];simp
 have b:(iH (a.take k)).length=2*k:=by rw[jw,ax];omega
 constructor;·rw[e2];simp[nth,ar,b]
 ·rw[e2];simp[nth,ar,b]
theorem FF{a e:List Nat}(h:∀c,c<a.length->nth a c<256)(b:d=iH a++e)(K:Nat)(l:K<=a.length)(q:K<=most):PC 154 B br bd off cap d most K (λk=>2*k) (λk=>a.take k):=by
 have n:d.length=2*a.length+e.length:=by rw[b];simp[jw]
 refine⟨λk g=>?_,λk g=>by show 2*k<2*(k+1);omega⟩;obtain⟨i,j⟩:=FG b k (by omega);have m:=h k (by omega);have o:(a.take k).length=k:=by rw[ax];omega
 have:=Ja (B:=B) (br:=br) (bd:=bd) (off:=off) (cap:=cap) (most:=most) (out:=a.take k) (nth a k/16) (nth a k%16) (by omega) (by omega) (by omega) i j (by omega);have e1:a.take k++[16*(nth a k/16)+nth a k%16]=a.take (k+1):=by rw[Nat.div_add_mod,bX (by omega)];simp[nth,show k<a.length by omega]
 rw[e1]at this;exact this
theorem Io(a:List Nat)(c:∀g,g<a.length->nth a g<256)(b:d=iH a++[62])(i:Rd B br bd off cap d most w 0 f [])(e:most<a.length) :
  Calls Tryz.prog 113 #[.pointer (some ⟨br,0,none⟩)] w λh l=>h=gU 6/\gD 5 B [br] w l:=by
 have n:d.length=2*a.length+1:=by rw[b];simp[jw]
 obtain⟨j,k⟩:=FG b most e;have m:=c most e;have o:(a.take most).length=most:=by rw[ax];omega
 exact Fd (FF c b most (by omega) (af _)) (C4 (nth a most/16) (nth a most%16) (by omega) (by omega) (by omega) j k (by omega)) i
theorem CP(a:List Nat)(i:∀c,c<a.length->nth a c<256)(b:d=iH a)(g:Rd B br bd off cap d most w 0 f [])(j:a.length<=most) :
  Calls Tryz.prog 113 #[.pointer (some ⟨br,0,none⟩)] w λe l=>e=gU 5/\gD 5 B [br] w l:=by
 have h:d.length=2*a.length:=by rw[b];simp[jw]
 refine Fd (K:=a.length) (pos:=λk=>2*k) (outs:=λk=>a.take k) (FF i (by rw[b,ct]) a.length (af _) j) ?_ g;show ue 154 B br bd off cap d most (2*a.length) (a.take a.length) 5;rw[<-h];exact I9
end
end Go.Proofs.YtgkljcmjnphpeaaGreatDoor
