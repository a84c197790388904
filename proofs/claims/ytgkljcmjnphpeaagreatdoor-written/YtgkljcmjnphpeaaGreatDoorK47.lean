import Derived.Test.YtgkljcmjnphpeaaGreatDoorK31
set_option linter.unusedVariables false
set_option linter.unusedSimpArgs false
set_option maxHeartbeats 4000000
set_option maxRecDepth 100000
namespace Go.Proofs.YtgkljcmjnphpeaaGreatDoor
open Go.RowKit
section
variable{w w' A:World}{B bm:Nat}
structure Ob(A:World)(B bm bd S bx:Nat)(w:World)(ov:Value)(vs:List Value)(Vs:List (VT 12))(c0 c1 c2:Int)(c3:ByteArray)(c4:Option Addr)(c5 c6:Nat)(c7:Option Addr)(c8 c9:Nat)(e4:Option Addr)(e5 e6:Nat)(Y:VT 12):Prop where
 dg:Dg A B bm bd w ov vs Vs
 mkr:Mk B bm w
 s1:∀g,ov.ownBlock=some g->g<S
 s2:bd+1<=S
 vb:w.heap[bx]?=some (.cells #[.int .i64 c0,.int .i64 c1,.int .i64 c2,.string c3,.slice c4 c5 c6,.slice c7 c8 c9,.slice e4 e5 e6] 67 (0,0))
 val:gR (λg=>S<=g) 12 w (.agg #[.int .i64 c0,.int .i64 c1,.int .i64 c2,.string c3,.slice c4 c5 c6,.slice c7 c8 c9,.slice e4 e5 e6]) Y
section
variable{bd S d:Nat}{y:Value}{vs:List Value}{z:List (VT 12)}{f i l:Int}{m:ByteArray}{n:Option Addr}{o p:Nat}{q:Option Addr}{r s:Nat}{t:Option Addr}{v x:Nat}{Y:VT 12}
theorem Ob.cells(a:Ob A B bm bd S d w y vs z f i l m n o p q r s t v x Y):w.cell? ⟨d,0,none⟩=some (.int .i64 f)/\w.cell? ⟨d,1,none⟩=some (.int .i64 i)/\w.cell? ⟨d,2,none⟩=some (.int .i64 l)/\w.cell? ⟨d,3,none⟩=some (.string m)/\w.cell? ⟨d,4,none⟩=some (.slice n o p)/\w.cell? ⟨d,5,none⟩=some (.slice q r s)/\w.cell? ⟨d,6,none⟩=some (.slice t v x)/\w.cell? ⟨bd,0,none⟩=some y:=
 ⟨cb a.vb,cb a.vb,cb a.vb,cb a.vb,cb a.vb,cb a.vb,cb a.vb,cb a.dg.db⟩
theorem Ob.keep(a:Ob A B bm bd S d w y vs z f i l m n o p q r s t v x Y)(e:Mk B bm w')(k:gQ bm w w')(j:bm<S)(g:bm≠d):Ob A B bm bd S d w' y vs z f i l m n o p q r s t v x Y:=
 ⟨a.dg.step k,e,a.s1,a.s2,(k.block _ (ae a.vb) (eG g)).trans a.vb,gR.keep 12 a.val λb h c=>k.block b c (by omega)⟩
theorem Ob.news(h:Ob A B bm bd S d w y vs z f i l m n o p q r s t v x Y){b:Nat}(e:b=w.heap.size):∀a c,([.int .i64 f,.int .i64 i,.int .i64 l,.string m,.slice n o p,.slice q r s,.slice t v x]:List Value)[a]?=some c->(w.alloc (.cells #[.int .i64 f,.int .i64 i,.int .i64 l,.string m,.slice n o p,.slice q r s,.slice t v x] 67)).cell? ((⟨b,0,none⟩:Addr).add a)=some c:=by intro a c g;subst e;rw[aa,cb (jd w _)];simpa using g
theorem Ob.app(g:Ob A B bm bd S d w y vs z f i l m n o p q r s t v x Y){e:Value}(k:w'.ownsRow (bd+1) 67 7 e (vs.length+1) (vs.flatMap cellsOf++[.int .i64 f,.int .i64 i,.int .i64 l,.string m,.slice n o p,.slice q r s,.slice t v x]))(h:(w.alloc (.cells #[.int .i64 f,.int .i64 i,.int .i64 l,.string m,.slice n o p,.slice q r s,.slice t v x] 67)).grownBy w' y.ownBlock)(F:∀c,e.ownBlock=some c->y.ownBlock=some c\/w.heap.size+1<=c) :
  Dg A B bm bd (w'.setCell ⟨bd,0,none⟩ e) e (vs++[.agg #[.int .i64 f,.int .i64 i,.int .i64 l,.string m,.slice n o p,.slice q r s,.slice t v x]]) (z++[Y])/\Mk B bm (w'.setCell ⟨bd,0,none⟩ e)/\w'.cell? ⟨bd,0,none⟩=some y/\w'.frozen? ⟨bd,0,none⟩=false/\∃a D,e=.slice a (vs.length+1) D:=by
 have b:=((aj w.heap.size w).alloc (af _) (.cells #[.int .i64 f,.int .i64 i,.int .i64 l,.string m,.slice n o p,.slice q r s,.slice t v x] 67));obtain⟨u,C,j⟩:=(g.dg.alloc (.cells #[.int .i64 f,.int .i64 i,.int .i64 l,.string m,.slice n o p,.slice q r s,.slice t v x] 67)).obj (g.mkr.keep λc h=>b.block c h) g.s1 g.s2 (gR.keep 12 g.val λc _ h=>b.block c h) k h (λc E=>by have:=F c E;simpa using this);exact⟨u,C,cb j,nP j,i_ k⟩
end
def Ag(w:World)(e:Ending)(w':World):Prop:=∃(c:Nat) (d:Value) (a:List (VT 12)),0<c/\c<=6/\a.length=c/\e=.returned (.tuple #[.agg #[d,.int .i64 1],.int .i64 (i8 a:Int)])/\kK (λf=>w.heap.size<=f) 12 (w.heap.size+1+1) a w' d/\(∀b∈a,jT c b)/\∃b,a[0]?=some b/\kO b=7
structure Sx(w3:World)(B bm:Nat)(w:World)(t:List Nat)(iv kv fv:Value)(fs:List Nat):Prop where
 only:gQ bm w3 w
 mkr:Mk B bm w
 lt:bm<w3.heap.size
 vb:w.heap[w3.heap.size]?=some (.cells #[.int .i64 8,.int .i64 0,.int .i64 0,.string (gC t),iv,kv,fv] 67 (0,0))
 own:w.ownsRow (w3.heap.size+1) 3 1 fv fs.length (fs.map λf:Nat=>.int .i64 (f:Int))
section
variable{d:World}{t:List Nat}{m n j:Value}{i:List Nat}
theorem Sx.step(a:Sx d B bm w t m n j i)(b:Mk B bm w')(k:gQ bm w w'):Sx d B bm w' t m n j i:=by have:=a.lt;exact⟨a.only.trans k,b,a.lt,(k.block _ (ae a.vb) (by omega)).trans a.vb,ul a.own k (by omega)⟩
theorem Sx.alloc(c:Sx d B bm w t m n j i)(a:Obj):Sx d B bm (w.alloc a) t m n j i:=c.step (c.mkr.keep λb e=>((aj _ _).alloc (af _) a).block b e) (.of_below ((aj _ _).alloc (af _) a))
theorem Sx.text(a:Sx d B bm w t m n j i)(c:List Nat):Sx d B bm (w.setCell ⟨d.heap.size,3,none⟩ (.string (gC c))) c m n j i:=by have e:∀g,g≠d.heap.size->(w.setCell ⟨d.heap.size,3,none⟩ (.string (gC c))).heap[g]?=w.heap[g]?:=λg b=>jL _ b;have k:=a.lt;have l:B<=bm:=a.mkr.le;refine⟨⟨a.only.os,a.only.tape,a.only.output,by simp[World.setCell];exact a.only.size,λg b h=>(e g (by omega)).trans (a.only.block g b h)⟩,a.mkr.low k λg b _=>e g (by omega),a.lt,by rw[lq _ a.vb];rfl,?_⟩;exact aR a.own (λf=>absurd (a.own.lt d.heap.size f).1 (by omega)) _
theorem Sx.fil(b:Sx d B bm w t m n j i){g:Nat}{f:Value}(h:w'.ownsRow (d.heap.size+1) 3 1 f (i.length+1) ((i.map λg:Nat=>.int .i64 (g:Int))++[.int .i64 (g:Int)]))(e:w.grownBy w' j.ownBlock) :
  Sx d B bm (w'.setCell ⟨d.heap.size,6,none⟩ f) t m n f (i++[g])/\w'.cell? ⟨d.heap.size,6,none⟩=some j/\w'.frozen? ⟨d.heap.size,6,none⟩=false/\∃q r,f=.slice q (i.length+1) r:=by
 have v:=b.lt;have p:∀a,j.ownBlock=some a->d.heap.size+1<=a:=λa c=>(b.own.lt a c).1;have k:=(e.block _ (ae b.vb) (λc=>by have:=p _ c.symm;omega)).trans b.vb;have y:=ae b.vb;have o:∀a,a<d.heap.size->a<w.heap.size->(w'.setCell ⟨d.heap.size,6,none⟩ f).heap[a]?=w.heap[a]?:=λa x s=>by rw[jL _ (by omega),e.block a s (λc=>by have:=p a c.symm;omega)]
 refine⟨⟨⟨e.os.trans b.only.os,e.tape.trans b.only.tape,e.output.trans b.only.output,by have:=e.size;have:=b.only.size;simp[World.setCell];omega,λa l u=>(o a l (by omega)).trans (b.only.block a l u)⟩,b.mkr.low v o,b.lt,by rw[lq _ k];rfl,?_⟩,cb k,nP k,i_ h⟩;rw[ab,aH];exact aR h (λc=>absurd (h.lt d.heap.size c).1 (by omega)) _
theorem Sx.val{b:Nat}(e:Sx d B bm w t m n j i)(y:b<=d.heap.size)(z:bm<b){h:List (VT 11)}{g:List (List Nat)}(q:gR (λa=>b<=a) 12 d (.agg #[.int .i64 7,.int .i64 0,.int .i64 0,.string { data:=#[] },m,n,.slice none 0 0]) (⟨7,0,0,[],h,g,[]⟩:gz (VT 11))) :
  gR (λa=>b<=a) 12 w (.agg #[.int .i64 8,.int .i64 0,.int .i64 0,.string (gC t),m,n,j]) (⟨8,0,0,t,h,g,i⟩:gz (VT 11)):=by
 obtain⟨r,s,k,u,c,f,h3,l,o,x⟩:=gR.keep 12 q λa v f=>e.only.block a f (by omega);simp[nV]at c;obtain⟨rfl,rfl,rfl⟩:m=r/\n=s/\_=k:=⟨c.2.1,c.2.2.1,c.2.2.2⟩;exact⟨m,n,j,u,rfl,f,h3,l,o,jr.of e.own λa p=>by have:=(e.own.lt a p).1;omega⟩
end
def vk:Nat->Code->Code
 |0,a=>a
 |c+1,.seq _ b=>vk c b
 |_+1,a=>a
theorem Kf{c:Func}{e g:Tmp}{f:TypeId}(h:c.results=#[.cell e f,.tmp g])(a:Array Value)(w:World)(d:Nat)(b:Array Value)
  (j:a.getD e undef=.pointer (some ⟨d,0,none⟩)) (i:(loadVar f ⟨d,0,none⟩).run Tryz.prog w=.ok (.agg b) w) :
  (results c a).run Tryz.prog w=.ok (.tuple #[.agg b,a.getD g undef]) w:=by
 rw[results_cell_tmp h,j];simp[asAddr,i]
theorem F1{q:Nat}{X:Value}{i:List Value}{g:List (VT 12)}(a7:0<q)(bz:q<=6)(D0:Hid (Dg A B bm (A.heap.size+1) w X i g))(M0:Hid (Mk B bm w))(h1:i.length=1)(F:Hid (∀j∈g,jT q j))(E:Hid (∃j,g[0]?=some j/\kO j=7))(h0:Hid (i8 g=0))(t7 dr ds dv dw d2 d3 d4 d5 d6 ea eb ec ei ej el em en er es et:Value) :
  Code.wp Tryz.prog (vk 7 (Tryz.f23.body.getD .skip)) (bodyPost Tryz.prog Tryz.f23 λr w'=>Ag A r w'/\gQ bm A w') { tmps:=#[.pointer (some ⟨bm,0,none⟩),undef,.pointer (some ⟨A.heap.size,0,none⟩),.int .i64 0,.pointer (some ⟨A.heap.size+1,0,none⟩),.int .i64 (q:Int),.int .i64 0,t7,undef,undef,undef,undef,undef,undef,dr,ds,dv,dw,d2,d3,d4,d5,d6,ea,eb,ec,ei,ej,el,em,en,er,es,et,undef,undef,undef,undef,undef,undef,undef,undef,undef,undef,undef,undef,undef,undef,undef,undef,undef,undef,undef,undef,undef,undef,undef,undef,undef,undef,undef,undef,undef,undef,undef,undef,undef,undef,undef,undef,undef,undef,undef,undef,undef,undef,undef,undef,undef,undef,undef,undef,undef,undef,undef,undef,undef,undef,undef,undef,undef,undef],defers:=[] } w:=by
 obtain⟨i0,hi,a9,ba,bb⟩:=bu iV;obtain⟨j0,ji,dk,dl,dn⟩:=bu C7;conv=>arg 2;simp only[Tryz.f23,Option.getD_some,vk]
 go_wp2;go_loopw [6,8] (λnb m wr=>∃(p:Nat) (X:Value) (i:List Value) (g:List (VT 12)),m=.int .i64 p/\p<=q/\i.length=p/\nb=.int .i64 (i8 g:Nat)/\i8 g<=40*p/\Hid (Dg A B bm (A.heap.size+1) wr X i g)/\Hid (Mk B bm wr)/\Hid (∀j∈g,jT q j)/\Hid (∃j,g[0]?=some j/\kO j=7)) (λ_ m _=>q-(intOf m).toNat)
 case atStart=>exact⟨1,X,i,g,rfl,a7,h1,by rw[h0.o];rfl,by rw[h0.o];omega,D0,M0,F,E⟩
 clear D0 M0 F E h0 h1
 case round =>
  obtain⟨p,X,i,g,rfl,hj,a5,rfl,fz,a,bn,F,E⟩:=hrel;by_cases bx:p=q
  ·subst bx;have d0:wr.cell? ⟨A.heap.size+1,0,none⟩=some X:=cb a.o.db;have d1:wr.cell? ⟨A.heap.size+1,1,none⟩=some (.int .i64 1):=cb a.o.db;have r0:wr.cell? ⟨A.heap.size,0,none⟩=some (.slice none 0 0):=cb a.o.rb;have r1:wr.cell? ⟨A.heap.size,1,none⟩=some (.int .i64 0):=cb a.o.rb;have f0:=ix 0 a.o.rb;have f1:=ix 1 a.o.rb;obtain⟨V,W,rfl⟩:=i_ a.o.own;have n:((wr.setCell ⟨A.heap.size,0,none⟩ (.slice V i.length W)).setCell ⟨A.heap.size,1,none⟩ (.int .i64 1)).heap[A.heap.size]?=some (.cells #[.slice V i.length W,.int .i64 1] 31 (0,0)):=by rw[lq _ (lq _ a.o.rb)];rfl
   have HF:=gv n;have G:=gv (((gQ.refl A.heap.size wr).setCell 0 (.slice V i.length W)).setCell 1 (.int .i64 1));have HJ:=gv a5;clear a5 n;go_wp2;refine aF (Kf Tryz.results23 _ _ A.heap.size _ rfl (run_loadVar_row _ A.heap.size 31 31 _ _ _ HF.o f7 rfl (by kernel_rfl))) rfl ?_;have e8:=a.o.le;have e9:=a.o.lt;refine⟨⟨_,_,g,a7,bz,by rw[<-a.o.len];exact HJ.o,rfl,?_,F.o,E.o⟩,?_⟩;·exact⟨i,ul a.o.own G.o (by omega),a.o.len,λm D b3 P hy=>gR.mono 12 (gR.keep 12 (a.o.ch m D b3 P hy) λd l cr=>G.o.block d cr (by omega)) λd l _=>by omega⟩
   ·exact⟨G.o.os.trans a.o.only.os,G.o.tape.trans a.o.only.tape,G.o.output.trans a.o.only.output,aD a.o.only.size G.o.size,λd l dc=>(G.o.block d (aC l a.o.only.size) (by omega)).trans (a.o.only.block d l dc)⟩
  ·have bd:=gv (λb6 hW=>Dp (B:=B) (bm:=bm) a7 bz 3 7 (by decide) b6 hW);have cp:=ae a.o.db;have e0:bm<A.heap.size:=a.o.lt;have dj:=a.o.only.size;have HJ:=gv a5;have f6:i.length<=6:=by omega
   clear a5;go_wp2_with fail;refine(bd.o wr bn.o).mono ?_;clear bd;rintro r f ⟨gf,j,rfl,hV,hM,m3,k3,n0,n1,n2,n3,n4,n5,a3⟩;simp only[];have a1:=gv (gR.cells hV);have HV:=gv hV;have HM:=gv hM;obtain⟨U,c1,c2,c3,J,K,L,M,N,O,e4,e5,e6,a8⟩:=gR.form hV;obtain⟨_,_,_,_,_,_,_,_,_,_,a4⟩:=gR.form2 hV;have bw:U=(kO j:Int):=by rw[a8]at a4;simp at a4;exact a4.1
   clear a4 hV hM;rw[a8]at a3;simp at a3;obtain⟨b7,b8,b9⟩:=a3.2.2.2.2.2.2;subst b7 b8 b9;subst a8;clear a3;obtain⟨V,W,rfl⟩:=i_ a.o.own;have de:=k3.size;have H:Hid (Ob A B bm (A.heap.size+1) wr.heap.size f.heap.size (f.alloc (.cells #[.int .i64 U,.int .i64 c1,.int .i64 c2,.string c3,.slice J K L,.slice M N O,.slice none 0 0] 67)) (.slice V i.length W) i g U c1 c2 c3 J K L M N O none 0 0 (s5 j)):=by have b:=((aj f.heap.size f).alloc (af _) (.cells #[.int .i64 U,.int .i64 c1,.int .i64 c2,.string c3,.slice J K L,.slice M N O,.slice none 0 0] 67));exact⟨(a.o.step k3).below b,m3.keep λd l=>b.block d l,λd r=>(a.o.own.lt d r).2,by omega,jd f _,gR.keep 12 (gR.ups 11 HV.o) λd _ l=>b.block d l⟩
   have al:Hid (n6 (s5 j)=0):=hH.slen_up HM.o;have ad:Hid (jT q (s5 j)):=Or.inl (hH.up 3 11 HM.o);have e3:p<q:=by omega
   have D3:=gv (a.o.step k3);obtain⟨a6,hS⟩:∃a6,wr.heap.size=a6:=⟨_,rfl⟩;rw[hS]at H HV de cp dj;clear a bn m3 k3 bx hS;by_cases hk:kO j=7
   ·obtain rfl:U=7:=by omega
    have HK:=gv hk;clear bw hk;have t:=H.o.cells.1;go_wp2_with fail;refine(mo H.o.mkr 2 (by decide) (by decide)).mono ?_;rintro r w5 ⟨⟨r5,fl,rfl⟩,m5,k5⟩;have c:=gv (H.o.keep m5 k5 (by omega) (by omega));have S:Hid (gQ bm f w5):=(gQ.of_below ((aj f.heap.size f).alloc (af _) _)).trans k5;clear m5 k5 H t;rcases(show r5=1\/r5=0 by omega)with rfl | rfl
    ·obtain⟨t,x1,x2,Y,x4,x5,R,x7⟩:=c.o.cells;go_wp2_with (at_builtin;refine pZ _ rfl (.tmp 85) (.tmp 87) 29 rfl (A.heap.size+1+1) 67 i0 _ 7 112 cu hi a9 ba bb rfl (by decide) _ _ _ rfl (c.o.dg.alloc _).own ⟨w5.heap.size,0,none⟩ 1 1 _ rfl rfl (c.o.news (by simp)) ?hone ?h63 ?hby ?hbs ?_)
     case hone=>exact a1.o.2
     case h63=>unfold maxLen;omega
     case hby=>omega
     case hbs=>have:=ae c.o.dg.db;simp at this ⊢;omega
     intro v7 w7 z x y;obtain⟨u,v,y0,z0,ao,ac,rfl⟩:=c.o.app z x (by simpa using y);have Z:=gv u;have M8:=gv v;clear u v z x y c t x1 x2 Y x4 x5 R x7;go_wp2;go_roundw
     case rel=>exact⟨p+1,_,_,_,by go_num,by omega,by rw[ab,HJ.o];rfl,by rw[lQ,al.o];go_num,by rw[lQ,al.o];omega,Z,M8,pX F.o ad.o,oe E.o⟩
     case measure=>simp[intOf];omega
    ·obtain⟨ks,dp,cs,c0,cw,da,co⟩:=hH.dict HM.o HK.o;subst co;obtain⟨cd,cg,ck⟩:c1=0/\c2=0/\c3={ data:=#[] }:=by obtain⟨f8,gb,ez,gk,e',_⟩:=HV.o;simp[nV]at e';exact⟨e'.1,e'.2.1,e'.2.2.1⟩
     subst cd cg ck;have X5:Hid (Sx f B bm (w5.setCell ⟨f.heap.size,0,none⟩ (.int .i64 8)) [] (.slice J K L) (.slice M N O) (.slice none 0 0) []):=by have b0:∀d,d≠f.heap.size->(w5.setCell ⟨f.heap.size,0,none⟩ (.int .i64 8)).heap[d]?=w5.heap[d]?:=λd l=>jL _ l;refine⟨⟨S.o.os,S.o.tape,S.o.output,by simp[World.setCell];exact S.o.size,λd l hb=>(b0 d (by omega)).trans (S.o.block d l hb)⟩,c.o.mkr.low (bv:=f.heap.size) (by omega) λd l _=>b0 d (by omega),by omega,by rw[lq _ c.o.vb];rfl,bk _ _ _ _⟩
     have t:=c.o.cells.1;have f0:=ix 0 c.o.vb;have bi:=gv (gR.ups 11 HV.o);have S1:=gv c.o.s1;clear c S HM HK HV ad al a1;go_wp2_with fail;refine(mo X5.o.mkr 4 (by decide) (by decide)).mono ?_;rintro r w6 ⟨⟨r6,fm,rfl⟩,m6,k6⟩;have X6:=gv (X5.o.step m6 k6);clear m6 k6 X5 t f0;go_wp2;go_loopw [10] (λm wx=>∃(a2:Nat) (fv:Value) (o:List Nat),m=.int .i64 a2/\a2+o.length<=3/\Hid (∀s∈o,1<=s/\s<=4)/\Hid (Sx f B bm wx [] (.slice J K L) (.slice M N O) fv o)) (λm _=>(intOf m).toNat)
     case atStart=>exact⟨r6,_,[],rfl,by simp;omega,λs n=>(by cases n),X6⟩
     clear X6
     case round =>
      obtain⟨n7,fv,o,rfl,fb,HF,h⟩:=hrel;obtain⟨fa,fc,rfl⟩:=i_ h.o.own;by_cases cl:n7=0
      ·subst cl;go_wp2_with fail;refine(mo h.o.mkr 9 (by decide) (by decide)).mono ?_;rintro r w8 ⟨⟨Q,dd,rfl⟩,m8,k8⟩;have I:=gv (h.o.step m8 k8);clear m8 k8 h;go_wp2;go_loopw [12] (λm wx=>∃(a2:Nat) (e:List Nat),m=.int .i64 a2/\e.length+5*a2<=40/\Hid (∀D∈e,D<256)/\Hid (Sx f B bm wx e (.slice J K L) (.slice M N O) (.slice fa o.length fc) o)) (λm _=>(intOf m).toNat)
       case atStart=>exact⟨Q,[],rfl,by simp;omega,λs n=>(by cases n),I⟩
       clear I
       case round =>
        obtain⟨n9,e,rfl,fd,HT,h⟩:=hrel;by_cases cm:n9=0
        ·subst cm;obtain⟨a0,hY⟩:∃a0:VT 12,a0=(⟨8,0,0,e,dp.map (s5 (k:=10)),ks,o⟩:gz (VT 11)):=⟨_,rfl⟩;have c:Hid (Ob A B bm (A.heap.size+1) a6 f.heap.size wr (.slice V i.length W) i g 8 0 0 (gC e) J K L M N O fa o.length fc a0):=⟨D3.o.step h.o.only,h.o.mkr,S1.o,by omega,h.o.vb,by rw[hY];exact h.o.val (by omega) (by omega) bi.o⟩;have ad:Hid (jT q a0):=by rw[hY];exact Or.inr (Or.inr ⟨rfl,rfl,rfl,by rw[av];exact cs,by rw[av];exact c0,cw,λb3 hy=>(by obtain⟨ex,hz,rfl⟩:=cv.1 hy;exact hH.up 2 10 (da ex hz)),by show e.length<=40;omega,HT.o,by show o.length<=3;omega,HF.o⟩)
         have bf:Hid (i8 (g++[a0])=i8 g+e.length):=by unfold Hid;rw[lQ,hY];rfl
         clear hY;have di:(gC e).size=e.length:=um e;have f4:e.length<=40:=by omega
         have a1:=gv (gR.cells c.o.val);clear h HT HF bi;obtain⟨t,x1,x2,Y,x4,x5,R,x7⟩:=c.o.cells;go_wp2_with (at_builtin;refine pZ _ rfl (.tmp 85) (.tmp 87) 29 rfl (A.heap.size+1+1) 67 i0 _ 7 112 cu hi a9 ba bb rfl (by decide) _ _ _ rfl (c.o.dg.alloc _).own ⟨wr.heap.size,0,none⟩ 1 1 _ rfl rfl (c.o.news (by simp)) ?hone ?h63 ?hby ?hbs ?_)
         case hone=>exact a1.o.2
         case h63=>unfold maxLen;omega
         case hby=>omega
         case hbs=>have:=ae c.o.dg.db;simp at this ⊢;omega
         intro v7 w7 z x y;obtain⟨u,v,y0,z0,ao,ac,rfl⟩:=c.o.app z x (by simpa using y);have Z:=gv u;have M8:=gv v;clear u v z x y c t x1 x2 Y x4 x5 R x7;go_wp2;go_roundw
         case rel=>exact⟨p+1,_,_,_,by go_num,by omega,by rw[ab,HJ.o];rfl,by rw[bf.o];go_num,by rw[bf.o];omega,Z,M8,pX F.o ad.o,oe E.o⟩
         case measure=>simp[intOf];omega
        ·have HX:=gv (Ch (nought:=true) h.o.mkr);go_wp2_with fail;refine HX.o.mono ?_;rintro r ev ⟨⟨C,f2,bs,rfl⟩,b2,b1⟩;have T:=gv (h.o.step b2 b1);have Y:ev.cell? ⟨f.heap.size,3,none⟩=some (.string (gC e)):=cb T.o.vb;have f3:=ix 3 T.o.vb;have br:=gv (T.o.text (e++C));have di:(gC e).size=e.length:=um e;have f5:(gC C).size=C.length:=um C;have ey:=gv (DV e C);rw[<-DV e C]at br;have b5:Hid (∀D∈e++C,D<256):=λD P=>by
          rcases bH.1 P with P | P;·exact HT.o D P
          ·exact(bs D P).1
         clear b2 b1 T bs HX h;go_wp2;go_roundw
         case rel=>exact⟨n9-1,e++C,by go_num,by simp;omega,b5,br⟩
         case measure=>simp[intOf];omega
      ·go_wp2_with fail;refine(mo h.o.mkr 4 (by decide) (by decide)).mono ?_;rintro r w8 ⟨⟨Q,dd,rfl⟩,m8,k8⟩;have I:=gv (h.o.step m8 k8);have R:w8.cell? ⟨f.heap.size,6,none⟩=some (.slice fa o.length fc):=cb I.o.vb;have X9:=gv (I.o.alloc (.cells #[.int .i64 (1+(Q:Int))] 3));have fx:=ae I.o.vb;clear m8 k8 h;go_wp2_with (at_builtin;refine aK _ rfl (.tmp 61) (.tmp 63) 52 rfl (f.heap.size+1) 3 j0 (.int .i64 0) 1 8 dq ji dk dl dn rfl (by decide) _ _ _ rfl X9.o.own ⟨w8.heap.size,0,none⟩ 1 1 [.int .i64 (1+(Q:Int))] rfl rfl ?hnews ?hone ?h63 ?hby ?hbs ?_)
       case hnews=>intro p eu hu;rw[aa,cb (jd w8 _)];simpa using hu
       case hone=>intro eu hu;simp at hu;subst hu;rfl
       case h63=>unfold maxLen;omega
       case hby=>omega
       case hbs=>simp;omega
       intro gi gl bc bt _;rw[show(1+(Q:Int))=((1+Q:Nat):Int)by omega]at bc;obtain⟨bq,y6,z6,ga,gc,rfl⟩:=X9.o.fil bc bt;have T:=gv bq;have b4:Hid (∀s∈o++[1+Q],1<=s/\s<=4):=λs n=>by
        rcases bH.1 n with n | n;·exact HF.o s n
        ·rcases cc.1 n with rfl;omega
       clear bc bt bq X9 I R;go_wp2;go_roundw
       case rel=>exact⟨n7-1,_,_,by go_num,by simp;omega,b4,T⟩
       case measure=>simp[intOf];omega
   ·have e7:U≠7:=by omega
    have HK:=gv hk;clear bw hk;have c:=H;clear H;obtain⟨t,x1,x2,Y,x4,x5,R,x7⟩:=c.o.cells;go_wp2_with (at_builtin;refine pZ _ rfl (.tmp 85) (.tmp 87) 29 rfl (A.heap.size+1+1) 67 i0 _ 7 112 cu hi a9 ba bb rfl (by decide) _ _ _ rfl (c.o.dg.alloc _).own ⟨f.heap.size+1,0,none⟩ 1 1 _ rfl rfl (c.o.news (by simp)) ?hone ?h63 ?hby ?hbs ?_)
    case hone=>exact a1.o.2
    case h63=>unfold maxLen;omega
    case hby=>omega
    case hbs=>have:=ae c.o.dg.db;simp at this ⊢;omega
    intro v7 w7 z x y;obtain⟨u,v,y0,z0,ao,ac,rfl⟩:=c.o.app z x (by simpa using y);have Z:=gv u;have M8:=gv v;clear u v z x y c t x1 x2 Y x4 x5 R x7;go_wp2;go_roundw
    case rel=>exact⟨p+1,_,_,_,by go_num,by omega,by rw[ab,HJ.o];rfl,by rw[lQ,al.o];go_num,by rw[lQ,al.o];omega,Z,M8,pX F.o ad.o,oe E.o⟩
    case measure=>simp[intOf];omega
end
section
variable{w d f:World}{B c:Nat}
theorem wI{b:Nat->Prop}{h i:Nat}{j:Value}{l:Array Value}{k:VT 11}(m:w.heap[h]?=some (.cells l 67 (0,0)))(n:w.heap[i]?=some (.cells #[.string { data:=#[65] }] 9 (0,0)))(t:b h)(u:b i)(o:l.toList=cellsOf j)(p:gR b 11 w j k) :
  gR b 12 w (.agg #[.int .i64 7,.int .i64 0,.int .i64 0,.string { data:=#[] },.slice (some ⟨h,0,none⟩) 1 1,.slice (some ⟨i,0,none⟩) 1 1,.slice none 0 0]) (⟨7,0,0,[],[k],[[65]],[]⟩:gz (VT 11)):=by
 have s:=(gR.cells p).1;refine⟨_,_,_,[j],rfl,rfl,⟨FX m (af _) (by omega) (by rw[<-ee,o,s]) ?_,λr g=>?_⟩,λq v x a e=>?_,⟨FX n (af _) (by omega) rfl rfl,λr g=>?_⟩,jr.nil _ _ _ _⟩;·rw[o,aY (by omega)];simp
 ·cases g;exact⟨t,ae m⟩
 ·match q,a,e with
  |0,a,e=>cases a;cases e;exact p
  |q+1,a,e=>simp at a
 ·cases g;exact⟨u,ae n⟩
theorem Jt(al:Mk B c w):Calls Tryz.prog 23 #[.pointer (some ⟨c,0,none⟩)] w λj d=>Ag w j d/\gQ c w d:=by
 obtain⟨i0,hi,a6,a7,a8⟩:=bu iV;have bi:=al.lt;have M1:Hid (Mk B c ((w.alloc (.cells #[.slice none 0 0,.int .i64 0] 31)).alloc (.cells #[.slice none 0 0,.int .i64 1] 31))):=(al.keep λb hb=>((aj _ _).alloc (af _) _).block b hb).keep λb hb=>((aj _ _).alloc (af _) _).block b hb;have D1:Hid (Dg w B c (w.heap.size+1) ((w.alloc (.cells #[.slice none 0 0,.int .i64 0] 31)).alloc (.cells #[.slice none 0 0,.int .i64 1] 31)) (.slice none 0 0) [] []):=by have G:=((aj w.heap.size w).alloc (af _) (.cells #[.slice none 0 0,.int .i64 0] 31));have r1:=jd w (.cells #[.slice none 0 0,.int .i64 0] 31);have d1:=jd (w.alloc (.cells #[.slice none 0 0,.int .i64 0] 31)) (.cells #[.slice none 0 0,.int .i64 1] 31);refine⟨.of_below (G.trans (((aj _ _).alloc (af _) _).mono G.size)),bi,by omega,l9 _ r1,by simpa using d1,bk _ _ _ _,rfl,λbs bv bw hx=>by simp at hx⟩
 clear al;go_enter Tryz.func23,Tryz.ntmps23;go_wp2_with fail;refine(mo M1.o 6 (by decide) (by decide)).mono ?_;rintro j W ⟨⟨r,hr,rfl⟩,m2,k2⟩;have D2:=gv (D1.o.step k2);clear D1 M1 k2;go_wp2_with fail;obtain⟨D,ho⟩:∃D,r+1=D:=⟨_,rfl⟩;rw[show(1+(r:Int))=(D:Int)by omega];have a1:0<D:=by omega
 have a2:D<=6:=by omega
 clear ho;have a9:=gv (λba hW=>Dp (B:=B) (bm:=c) a1 a2 3 7 (by decide) ba hW);refine(a9.o W m2).mono ?_;rintro j a ⟨bt,i,rfl,M,hM,m3,k3,_⟩;simp only[];obtain⟨L,P,E⟩:∃(L:Option Addr) (P:Nat),Hid (Dg w B c (w.heap.size+1) W (.slice L 0 P) [] []/\∀e,(Value.slice L 0 P).ownBlock≠some e):=⟨none,0,D2.o,λe j=>by cases j⟩;clear D2;have bb:=gv (gR.cells M);have S:=gv M;have I:=gv hM;obtain⟨k,l,m,n,o,p,q,s,t,u,v,x,y,a5⟩:=gR.form M;obtain⟨_,_,_,_,_,_,_,_,_,_,V⟩:=gR.form2 M;have a4:k=(kO i:Int):=by rw[a5]at V;simp at V;exact V.1
 clear V M hM;subst a5;by_cases hk:kO i=7
 ·obtain rfl:k=7:=by omega
  have HK:=gv hk;clear a4 hk;have g:Hid (Ob w B c (w.heap.size+1) W.heap.size a.heap.size (a.alloc (.cells #[.int .i64 7,.int .i64 l,.int .i64 m,.string n,.slice o p q,.slice s t u,.slice v x y] 67)) (.slice L 0 P) [] [] 7 l m n o p q s t u v x y (s5 i)):=by have b:=((aj a.heap.size a).alloc (af _) (.cells #[.int .i64 7,.int .i64 l,.int .i64 m,.string n,.slice o p q,.slice s t u,.slice v x y] 67));exact⟨(E.o.1.step k3).below b,m3.keep λe C=>b.block e C,λe j=>absurd j (E.o.2 e),ae E.o.1.db,jd a _,gR.keep 12 (gR.ups 11 S.o) λe _ C=>b.block e C⟩
  obtain⟨x0,x1,x2,x3,x4,x5,x6,x7⟩:=g.o.cells;go_wp2_with (at_builtin;refine pZ _ rfl (.tmp 29) (.tmp 31) 29 rfl (w.heap.size+1+1) 67 i0 _ 7 112 cu hi a6 a7 a8 rfl (by decide) _ _ _ rfl (g.o.dg.alloc _).own ⟨a.heap.size+1,0,none⟩ 1 1 _ rfl rfl (g.o.news (by simp)) ?hone ?h63 ?hby ?hbs ?_)
  case hone=>exact bb.o.2
  case h63=>unfold maxLen;simp
  case hby=>simp
  case hbs=>have:=ae g.o.dg.db;simp at this ⊢;omega
  intro v7 w7 Q N O;obtain⟨H,J,y0,z0,ao,ac,rfl⟩:=g.o.app Q N (by simpa using O);have R:=gv H;have M8:=gv J;have Y:Hid (∀h∈[]++[s5 i],jT D h):=λh A=>by rcases cc.1 A with rfl;exact Or.inl (hH.up 3 11 I.o)
  have Z:Hid (i8 ([]++[s5 i])=0):=by have:=hH.slen_up I.o;show n6 (s5 i)+0=0;omega
  have X:Hid (∃h,([]++[s5 i])[0]?=some h/\kO h=7):=⟨_,rfl,HK.o⟩;clear H J Q N O g x0 x1 x2 x3 x4 x5 x6 x7 S I HK
  iterate 7 go_step
  refine ‹∀(ad:Act) (w:World),Code.wp Tryz.prog _ _ ad w->_› _ _ ?_;exact F1 a1 a2 R M8 rfl Y X Z _ _ _ _ _ _ _ _ _ _ _ _ _ _ _ _ _ _ _ _ _
 ·have bq:k≠7:=by omega
  clear a4 hk;have x0:(a.alloc (.cells #[.int .i64 k,.int .i64 l,.int .i64 m,.string n,.slice o p q,.slice s t u,.slice v x y] 67)).cell? ⟨a.heap.size,0,none⟩=some (.int .i64 k):=cb (jd a _);have g:Hid (Ob w B c (w.heap.size+1) W.heap.size a.heap.size (((a.alloc (.cells #[.int .i64 7,.int .i64 0,.int .i64 0,.string { data:=#[] },.slice (some ⟨a.heap.size+1+1,0,none⟩) 1 1,.slice (some ⟨a.heap.size+1,0,none⟩) 1 1,.slice none 0 0] 67)).alloc (.cells #[.string { data:=#[65] }] 9)).alloc (.cells #[.int .i64 k,.int .i64 l,.int .i64 m,.string n,.slice o p q,.slice s t u,.slice v x y] 67)) (.slice L 0 P) [] [] 7 0 0 { data:=#[] } (some ⟨a.heap.size+1+1,0,none⟩) 1 1 (some ⟨a.heap.size+1,0,none⟩) 1 1 none 0 0 (⟨7,0,0,[],[i],[[65]],[]⟩:gz (VT 11))):=by
   have br:=k3.size;obtain⟨z,bd⟩:∃z,a.alloc (.cells #[.int .i64 7,.int .i64 0,.int .i64 0,.string { data:=#[] },.slice (some ⟨a.heap.size+1+1,0,none⟩) 1 1,.slice (some ⟨a.heap.size+1,0,none⟩) 1 1,.slice none 0 0] 67)=z:=⟨_,rfl⟩;have n1:=jd a (.cells #[.int .i64 7,.int .i64 0,.int .i64 0,.string { data:=#[] },.slice (some ⟨a.heap.size+1+1,0,none⟩) 1 1,.slice (some ⟨a.heap.size+1,0,none⟩) 1 1,.slice none 0 0] 67);have G:=((aj a.heap.size a).alloc (af _) (.cells #[.int .i64 7,.int .i64 0,.int .i64 0,.string { data:=#[] },.slice (some ⟨a.heap.size+1+1,0,none⟩) 1 1,.slice (some ⟨a.heap.size+1,0,none⟩) 1 1,.slice none 0 0] 67));have s1:(a.alloc (.cells #[.int .i64 7,.int .i64 0,.int .i64 0,.string { data:=#[] },.slice (some ⟨a.heap.size+1+1,0,none⟩) 1 1,.slice (some ⟨a.heap.size+1,0,none⟩) 1 1,.slice none 0 0] 67)).heap.size=a.heap.size+1:=by simp
   rw[bd]at n1 G s1 ⊢;have n2:=jd z (.cells #[.string { data:=#[65] }] 9);have T:=((aj z.heap.size z).alloc (af _) (.cells #[.string { data:=#[65] }] 9));have s2:(z.alloc (.cells #[.string { data:=#[65] }] 9)).heap.size=a.heap.size+1+1:=by simp[s1]
   obtain⟨F,bf⟩:∃F,z.alloc (.cells #[.string { data:=#[65] }] 9)=F:=⟨_,rfl⟩;rw[bf]at n2 T s2 ⊢;have n3:=jd F (.cells #[.int .i64 k,.int .i64 l,.int .i64 m,.string n,.slice o p q,.slice s t u,.slice v x y] 67);have U:=((aj F.heap.size F).alloc (af _) (.cells #[.int .i64 k,.int .i64 l,.int .i64 m,.string n,.slice o p q,.slice s t u,.slice v x y] 67));have a3:∀e,e<a.heap.size->(F.alloc (.cells #[.int .i64 k,.int .i64 l,.int .i64 m,.string n,.slice o p q,.slice s t u,.slice v x y] 67)).heap[e]?=a.heap[e]?:=λe C=>by rw[U.block e (by omega),T.block e (by omega),G.block e C]
   rw[s1]at n2;rw[s2]at n3;refine⟨((((E.o.1.step k3).below G).below T).below U),m3.keep a3,λe j=>absurd j (E.o.2 e),ae E.o.1.db,?_,?_⟩;·rw[U.block _ (by omega),T.block _ (by omega)];exact n1
   ·refine wI n3 (by rw[U.block _ (by omega)];exact n2) (by omega) (by omega) rfl (gR.keep 11 S.o λe _ C=>a3 e C)
  obtain⟨bn,x1,x2,x3,x4,x5,x6,x7⟩:=g.o.cells;have bc:=gv (gR.cells g.o.val);go_wp2_with (at_builtin;refine pZ _ rfl (.tmp 29) (.tmp 31) 29 rfl (w.heap.size+1+1) 67 i0 _ 7 112 cu hi a6 a7 a8 rfl (by decide) _ _ _ rfl (g.o.dg.alloc _).own ⟨a.heap.size+1+1+1,0,none⟩ 1 1 _ rfl rfl (g.o.news (by simp)) ?hone ?h63 ?hby ?hbs ?_)
  case hone=>exact bc.o.2
  case h63=>unfold maxLen;simp
  case hby=>simp
  case hbs=>have:=ae g.o.dg.db;simp at this ⊢;omega
  intro v7 w7 Q N O;obtain⟨H,J,y0,z0,ao,ac,rfl⟩:=g.o.app Q N (by simpa using O);have R:=gv H;have M8:=gv J;obtain⟨h,A⟩:∃h:VT 12,h=(⟨7,0,0,[],[i],[[65]],[]⟩:gz (VT 11)):=⟨_,rfl⟩;have Y:Hid (∀K∈[]++[h],jT D K):=λK hZ=>by rcases cc.1 hZ with rfl;exact Or.inr (Or.inl ⟨i,I.o,A⟩)
  have Z:Hid (i8 ([]++[h])=0):=by rw[A];rfl
  have X:Hid (∃K,([]++[h])[0]?=some K/\kO K=7):=⟨_,rfl,by rw[A];rfl⟩;have D9:Hid (Dg w B c (w.heap.size+1) (w7.setCell ⟨w.heap.size+1,0,none⟩ (.slice ao (([]:List Value).length+1) ac)) (.slice ao (([]:List Value).length+1) ac) ([]++[.agg #[.int .i64 7,.int .i64 0,.int .i64 0,.string { data:=#[] },.slice (some ⟨a.heap.size+1+1,0,none⟩) 1 1,.slice (some ⟨a.heap.size+1,0,none⟩) 1 1,.slice none 0 0]]) ([]++[h])):=by rw[A];exact R.o
  clear H J R Q N O g x0 bn x1 x2 x3 x4 x5 x6 x7 S I A
  iterate 7 go_step
  refine ‹∀(ad:Act) (w:World),Code.wp Tryz.prog _ _ ad w->_› _ _ ?_;exact F1 a1 a2 D9 M8 rfl Y X Z _ _ _ _ _ _ _ _ _ _ _ _ _ _ _ _ _ _ _ _ _
end
end Go.Proofs.YtgkljcmjnphpeaaGreatDoor
