import Derived.Test.YtgkljcmjnphpeaaGreatDoorK30
set_option linter.unusedVariables false
set_option linter.unusedSimpArgs false
set_option maxHeartbeats 4000000
set_option maxRecDepth 100000
namespace Go.Proofs.YtgkljcmjnphpeaaGreatDoor
open Go.RowKit
section
variable{w w' m:World}{B bm bv d k o:Nat}
def Ai(B bm d k o:Nat)(w:World)(j:Ending)(w':World):Prop:=∃(a:Value) (b:VT k),j=.returned a/\gR (λl=>w.heap.size<=l) k w' a b/\hH o d k b/\Mk B bm w'/\gQ bm w w'/\∃c e f g h i,a=.agg #[c,e,f,g,h,i,.slice none 0 0]
def xT(B bm d k o:Nat):Prop:=∀w,Mk B bm w->Calls Tryz.prog 59 #[.pointer (some ⟨bm,0,none⟩),.int .i64 ((d+1:Nat):Int),.int .i64 (o:Int)] w (Ai B bm d k o w)
structure Lf(m:World)(B bm bv:Nat)(w:World)(kd n p:Int)(s:ByteArray)(iv kv:Value):Prop where
 only:gQ bm m w
 lt:bm<m.heap.size
 le:m.heap.size<bv
 rb:w.heap[m.heap.size]?=some (.cells gZ 67 (0,0))
 vb:w.heap[bv]?=some (.cells #[.int .i64 kd,.int .i64 n,.int .i64 p,.string s,iv,kv,.slice none 0 0] 67 (0,0))
 mkr:Mk B bm w
section
variable{c n p:Int}{s:ByteArray}{a f:Value}
theorem Lf.step(b:Lf m B bm bv w c n p s a f)(e:Mk B bm w')(k:gQ bm w w'):Lf m B bm bv w' c n p s a f:=
 ⟨b.only.trans k,b.lt,b.le,by rw[k.block _ (ae b.rb) (by have:=b.lt;omega)];exact b.rb,by rw[k.block _ (ae b.vb) (by have:=b.lt;have:=b.le;omega)];exact b.vb,e⟩
theorem Lf.set(e:Lf m B bm bv w c n p s a f)(j:Nat)(l:Value){t v x:Int}{y:ByteArray}{r u:Value}(z:(#[.int .i64 c,.int .i64 n,.int .i64 p,.string s,a,f,.slice none 0 0]:Array Value).setIfInBounds j l=#[.int .i64 t,.int .i64 v,.int .i64 x,.string y,r,u,.slice none 0 0]):Lf m B bm bv (w.setCell ⟨bv,j,none⟩ l) t v x y r u:=by have G:=e.lt;have F:=e.le;have h:∀g,g≠bv->(w.setCell ⟨bv,j,none⟩ l).heap[g]?=w.heap[g]?:=λg i=>jL _ i;obtain⟨A,E,D,C,h3⟩:=e.mkr;refine⟨⟨e.only.os,e.only.tape,e.only.output,by simp[World.setCell];exact e.only.size,λg i q=>(h g (by omega)).trans (e.only.block g i q)⟩,e.lt,e.le,by rw[h _ (by omega)];exact e.rb,by rw[lq _ e.vb,z],A,E,D,by rw[h _ (by omega)];exact C,h3.keep λb q _=>h b (by omega)⟩
theorem Lf.ends(b:Lf m B bm bv w c n p s a f):w.cell? ⟨bv,0,none⟩=some (.int .i64 c)/\w.cell? ⟨bv,1,none⟩=some (.int .i64 n)/\w.cell? ⟨bv,2,none⟩=some (.int .i64 p)/\w.cell? ⟨bv,3,none⟩=some (.string s)/\w.cell? ⟨bv,4,none⟩=some a/\w.cell? ⟨bv,5,none⟩=some f/\w.cell? ⟨bv,6,none⟩=some (.slice none 0 0) /\
  w.cell? ⟨m.heap.size,0,none⟩=some (.int .i64 0)/\w.cell? ⟨m.heap.size,1,none⟩=some (.int .i64 0)/\w.cell? ⟨m.heap.size,2,none⟩=some (.int .i64 0)/\w.cell? ⟨m.heap.size,3,none⟩=some (.string { data:=#[] })/\w.cell? ⟨m.heap.size,4,none⟩=some (.slice none 0 0)/\w.cell? ⟨m.heap.size,5,none⟩=some (.slice none 0 0)/\w.cell? ⟨m.heap.size,6,none⟩=some (.slice none 0 0) /\
  w.frozen? ⟨m.heap.size,0,none⟩=false/\w.frozen? ⟨m.heap.size,1,none⟩=false/\w.frozen? ⟨m.heap.size,2,none⟩=false/\w.frozen? ⟨m.heap.size,3,none⟩=false/\w.frozen? ⟨m.heap.size,4,none⟩=false/\w.frozen? ⟨m.heap.size,5,none⟩=false/\w.frozen? ⟨m.heap.size,6,none⟩=false:=
 ⟨cb b.vb,cb b.vb,cb b.vb,cb b.vb,cb b.vb,cb b.vb,cb b.vb,cb b.rb,cb b.rb,cb b.rb,cb b.rb,cb b.rb,cb b.rb,cb b.rb,nP b.rb,nP b.rb,nP b.rb,nP b.rb,nP b.rb,nP b.rb,nP b.rb⟩
theorem Lf.res(g:Lf m B bm bv w c n p s a f)(h:gQ m.heap.size w w'){l:VT k}(u:gR (λe=>bv+1<=e) k w (.agg #[.int .i64 c,.int .i64 n,.int .i64 p,.string s,a,f,.slice none 0 0]) l)(t:hH o d k l) :
  Ai B bm d k o m (.returned (.agg #[.int .i64 c,.int .i64 n,.int .i64 p,.string s,a,f,.slice none 0 0])) w':=by
 have D:=g.lt;have C:=g.le;have j:∀e,e<w.heap.size->e≠m.heap.size->w'.heap[e]?=w.heap[e]?:=h.block;obtain⟨q,z,y,i,h3⟩:=g.mkr;refine⟨_,l,rfl,gR.mono k (gR.keep k u λe q i=>j e i (by omega)) (λe q _=>by omega),t,⟨q,z,y,by rw[j _ (ae i) (by omega)];exact i,h3.keep λb A v=>j b v (by omega)⟩,?_,_,_,_,_,_,_,rfl⟩;exact⟨h.os.trans g.only.os,h.tape.trans g.only.tape,h.output.trans g.only.output,aD g.only.size h.size,λe r x=>(j e (aC r g.only.size) (by omega)).trans (g.only.block e r x)⟩
end
theorem zv(a:Int):a.tmod 10=0↔a%10=0:=by rw[<-Int.dvd_iff_tmod_eq_zero,<-Int.dvd_iff_emod_eq_zero]
theorem Mk.low(f:Mk B bm w)(i:bm<bv)(e:∀a,a<bv->a<w.heap.size->w'.heap[a]?=w.heap[a]?):Mk B bm w':=by obtain⟨g,l,j,c,h3⟩:=f;exact⟨g,l,j,by rw[e _ i (ae c)];exact c,h3.keep λb n h=>e b (by omega) h⟩
theorem Lf.gr{b:Nat}(a:Lf m B bm bv w b 0 0 { data:=#[] } (.slice none 0 0) (.slice none 0 0)):Gr m bm bv b k w (.slice none 0 0) [] [] (.slice none 0 0) []:=
 ⟨a.only,a.lt,a.le,a.rb,a.vb,bk _ _ _ _,bk _ _ _ _,rfl,λe f g c=>by simp at c⟩
theorem F4(ho:0<o)(ev:o<=6)(hd:d<=3)(ih:∀d',d=d'+1->xT B bm d' k o):xT B bm d (k+1) o:=by
 intro w al;obtain⟨i0,hi,d4,d5,d6⟩:=bu iV;obtain⟨j0,ji,ea,eb,ec⟩:=bu iS;have IH:=gv ih;clear ih;have Z:=al.lt;obtain⟨dv,lv,left,C,cs⟩:=al;have t:=oB C;have H:=ix 1 C;have M1:Hid (∀e:Int,Mk B bm ((w.setCell ⟨bm,1,none⟩ (.int .i64 e)).alloc (.cells gZ 67))/\gQ bm w ((w.setCell ⟨bm,1,none⟩ (.int .i64 e)).alloc (.cells gZ 67))/\((w.setCell ⟨bm,1,none⟩ (.int .i64 e)).alloc (.cells gZ 67)).heap[w.heap.size]?=some (.cells gZ 67 (0,0))):=λe=>by
  have b0:=((aj (w.setCell ⟨bm,1,none⟩ (.int .i64 e)).heap.size (w.setCell ⟨bm,1,none⟩ (.int .i64 e))).alloc (af _) (.cells gZ 67));have hs:(w.setCell ⟨bm,1,none⟩ (.int .i64 e)).heap.size=w.heap.size:=by simp[World.setCell]
  refine⟨⟨dv,lv,e,l9 _ (lq _ C),cs.keep λb h1 h2=>?_⟩,((gQ.refl _ _).setCell _ _).trans (.of_below b0),?_⟩;·rw[b0.block b (by rw[hs];exact h2),jL _ (by omega)]
  ·rw[<-hs];exact jd _ _
 unfold gZ at M1;clear cs C;go_enter Tryz.func59,Tryz.ntmps59;go_wp2_with fail;refine(mo (M1.o _).1 10 (by decide) (by decide)).mono ?_;rintro u c ⟨⟨r,hr,rfl⟩,m2,k2⟩;have l:Hid (∀r:Int,Lf w B bm c.heap.size (c.alloc (.cells #[.int .i64 r,.int .i64 0,.int .i64 0,.string { data:=#[] },.slice none 0 0,.slice none 0 0,.slice none 0 0] 67)) r 0 0 { data:=#[] } (.slice none 0 0) (.slice none 0 0)):=λr=>by obtain⟨_,a2,a3⟩:=M1.o (wrap64 (left-1));have b0:=((aj c.heap.size c).alloc (af _) (.cells #[.int .i64 r,.int .i64 0,.int .i64 0,.string { data:=#[] },.slice none 0 0,.slice none 0 0,.slice none 0 0] 67));have b1:=(k2.block _ (ae a3) (by omega)).trans a3;exact⟨(a2.trans k2).trans (.of_below b0),Z,ae b1,(b0.block _ (ae b1)).trans b1,jd c _,m2.keep λb C=>b0.block b C⟩
 clear M1 m2 k2 t H;have a7:r=0\/r=1\/r=2\/r=3\/r=4\/r=5\/r=9\/r=6\/r=7\/r=8:=by omega
 clear hr;rcases a7 with rfl | rfl | rfl | rfl | rfl | rfl | rfl | a7
 ·have a:=gv (l.o 0);have q:=gv (gR.leaf (P:=λf=>c.heap.size+1<=f) (w:=c.alloc (.cells #[.int .i64 0,.int .i64 0,.int .i64 0,.string { data:=#[] },.slice none 0 0,.slice none 0 0,.slice none 0 0] 67)) k 0 0 0 []);have p:Hid (hH o d (k+1) (hJ (VT k) 0 0 0 [])):=hH.leaf (Or.inl rfl);obtain⟨z,v1,v2,v3,v4,v5,v6,r0,r1,r2,r3,r4,r5,r6,f0,H,f2,f3,f4,f5,f6⟩:=a.o.ends;clear l Z;go_wp2;refine aF (aJ dz _ _ w.heap.size 67 _ _ _ rfl (m_ a.o.rb _ _ _ _ _ _ _) aP rfl (by kernel_rfl)) rfl ?_;exact a.o.res (ly _ _ _ _ _ _ _ _ _) q.o p.o
 ·have h:=gv (l.o 1);have z:=h.o.ends.1;clear l Z;go_wp2_with fail;refine(mo h.o.mkr 2 (by omega) (by omega)).mono ?_;rintro u L ⟨⟨e,hx,rfl⟩,s,A⟩;have i:=gv (h.o.step s A);clear s A h z;have t:=i.o.ends.2.1;have H:=ix 1 i.o.vb;have a:=gv (i.o.set 1 (.int .i64 ((e:Nat):Int)) rfl);have q:Hid (gR (λf=>c.heap.size+1<=f) (k+1) (L.setCell ⟨c.heap.size,1,none⟩ (.int .i64 ((e:Nat):Int))) _ _):=gR.leaf k 1 ((e:Nat):Int) 0 [];have p:Hid (hH o d (k+1) (hJ (VT k) 1 ((e:Nat):Int) 0 [])):=hH.leaf (Or.inr (Or.inl ⟨_,by omega,rfl⟩));obtain⟨z,v1,v2,v3,v4,v5,v6,r0,r1,r2,r3,r4,r5,r6,e0,e1,e2,e3,v,x,y⟩:=a.o.ends;clear i;go_wp2;refine aF (aJ dz _ _ w.heap.size 67 _ _ _ rfl (m_ a.o.rb _ _ _ _ _ _ _) aP rfl (by kernel_rfl)) rfl ?_;exact a.o.res (ly _ _ _ _ _ _ _ _ _) q.o p.o
 ·have h:=gv (l.o 2);have z:=h.o.ends.1;clear l Z;go_wp2_with fail;refine(mo h.o.mkr 4294967296 (by omega) (by omega)).mono ?_;rintro u L ⟨⟨e,hx,rfl⟩,s,A⟩;have i:=gv (h.o.step s A);clear s A h z;have t:=i.o.ends.2.1;have H:=ix 1 i.o.vb;have a:=gv (i.o.set 1 (.int .i64 (((e:Nat):Int)-2147483648)) rfl);have q:Hid (gR (λf=>c.heap.size+1<=f) (k+1) (L.setCell ⟨c.heap.size,1,none⟩ (.int .i64 (((e:Nat):Int)-2147483648))) _ _):=gR.leaf k 2 (((e:Nat):Int)-2147483648) 0 [];have p:Hid (hH o d (k+1) (hJ (VT k) 2 (((e:Nat):Int)-2147483648) 0 [])):=hH.leaf (Or.inr (Or.inr (Or.inl ⟨_,by omega,by omega,rfl⟩)));obtain⟨z,v1,v2,v3,v4,v5,v6,r0,r1,r2,r3,r4,r5,r6,e0,e1,e2,e3,v,x,y⟩:=a.o.ends;clear i;go_wp2;refine aF (aJ dz _ _ w.heap.size 67 _ _ _ rfl (m_ a.o.rb _ _ _ _ _ _ _) aP rfl (by kernel_rfl)) rfl ?_;exact a.o.res (ly _ _ _ _ _ _ _ _ _) q.o p.o
 ·have h:=gv (l.o 3);have z:=h.o.ends.1;clear l Z;go_wp2_with fail;refine(mo h.o.mkr 6 (by omega) (by omega)).mono ?_;rintro u L ⟨⟨ac,hp,rfl⟩,s,A⟩;have i:=gv (h.o.step s A);clear s A h z;have t:=i.o.ends.2.2.1;have H:=ix 2 i.o.vb;have L5:=gv (i.o.set 2 (.int .i64 (ac:Int)) rfl);clear i;go_wp2_with fail;refine(mo L5.o.mkr 1999999999 (by omega) (by omega)).mono ?_;rintro u X ⟨⟨e,hx,rfl⟩,m4,k4⟩;have L6:=gv (L5.o.step m4 k4);clear m4 k4 t H L5;have t:=L6.o.ends.2.1;have H:=ix 1 L6.o.vb;have L7:=gv (L6.o.set 1 (.int .i64 ((e:Int)-999999999)) rfl);have d0:=L7.o.ends.2.1;have d1:=L7.o.ends.2.2.1;have g1:=ix 1 L7.o.vb;have dl : -999999999<=(e:Int)-999999999:=by omega
  have dn:(e:Int)-999999999<=999999999:=by omega
  have en:wrap64 ((e:Int)-999999999)=(e:Int)-999999999:=by unfold wrap64;omega
  clear hx L6;by_cases hq:ac=0\/((e:Int)-999999999).tmod 10≠0
  ·have a:=L7;have q:Hid (gR (λf=>c.heap.size+1<=f) (k+1) (X.setCell ⟨c.heap.size,1,none⟩ (.int .i64 ((e:Int)-999999999))) _ _):=gR.leaf k 3 ((e:Int)-999999999) ac [];have p:Hid (hH o d (k+1) (hJ (VT k) 3 ((e:Int)-999999999) ac [])):=hH.leaf (Or.inr (Or.inr (Or.inr (Or.inl ⟨_,ac,dl,dn,by omega,hq.imp_right (λal u=>al ((zv _).2 u)),rfl⟩))));obtain⟨z,v1,v2,v3,v4,v5,v6,r0,r1,r2,r3,r4,r5,r6,e0,e1,e2,e3,v,x,y⟩:=a.o.ends;clear L7;rcases dK ac with rfl | h0
   ·go_wp2;refine aF (aJ dz _ _ w.heap.size 67 _ _ _ rfl (m_ a.o.rb _ _ _ _ _ _ _) aP rfl (by kernel_rfl)) rfl ?_;exact a.o.res (ly _ _ _ _ _ _ _ _ _) q.o p.o
   ·have ex:¬ ((e:Int)-999999999).tmod 10=0:=by omega
    go_wp2;refine aF (aJ dz _ _ w.heap.size 67 _ _ _ rfl (m_ a.o.rb _ _ _ _ _ _ _) aP rfl (by kernel_rfl)) rfl ?_;exact a.o.res (ly _ _ _ _ _ _ _ _ _) q.o p.o
  ·have h0:0<ac:=by omega
   have ht:((e:Int)-999999999).tmod 10=0:=by omega
   obtain⟨D,hM⟩:=Int.dvd_of_tmod_eq_zero ht;have er:((e:Int)-999999999).tdiv 10=D:=by rw[hM];exact Int.mul_tdiv_cancel_left D (by decide)
   have L8:=gv (L7.o.set 1 (.int .i64 (D+1)) rfl);have i0:=L8.o.ends.2.1;have i1:=L8.o.ends.2.2.1;have j1:=ix 2 L8.o.vb;have bd : -999999999<=D+1:=by omega
   have bf:D+1<=999999999:=by omega
   have el:=gv bd;have em:=gv bf;clear hq hM L7;by_cases hz:(D+1).tmod 10=0
   ·have a:=gv (L8.o.set 2 (.int .i64 0) rfl);have q:Hid (gR (λf=>c.heap.size+1<=f) (k+1) (((X.setCell ⟨c.heap.size,1,none⟩ (.int .i64 ((e:Int)-999999999))).setCell ⟨c.heap.size,1,none⟩ (.int .i64 (D+1))).setCell ⟨c.heap.size,2,none⟩ (.int .i64 0)) _ _):=gR.leaf k 3 (D+1) 0 [];have p:Hid (hH o d (k+1) (hJ (VT k) 3 (D+1) 0 [])):=hH.leaf (Or.inr (Or.inr (Or.inr (Or.inl ⟨_,0,bd,bf,by omega,Or.inl rfl,rfl⟩))));obtain⟨z,v1,v2,v3,v4,v5,v6,r0,r1,r2,r3,r4,r5,r6,e0,e1,e2,e3,v,x,y⟩:=a.o.ends;clear L8;go_wp2;refine aF (aJ dz _ _ w.heap.size 67 _ _ _ rfl (m_ a.o.rb _ _ _ _ _ _ _) aP rfl (by kernel_rfl)) rfl ?_;exact a.o.res (ly _ _ _ _ _ _ _ _ _) q.o p.o
   ·have a:=L8;have q:Hid (gR (λf=>c.heap.size+1<=f) (k+1) ((X.setCell ⟨c.heap.size,1,none⟩ (.int .i64 ((e:Int)-999999999))).setCell ⟨c.heap.size,1,none⟩ (.int .i64 (D+1))) _ _):=gR.leaf k 3 (D+1) ac [];have p:Hid (hH o d (k+1) (hJ (VT k) 3 (D+1) ac [])):=hH.leaf (Or.inr (Or.inr (Or.inr (Or.inl ⟨_,ac,bd,bf,by omega,Or.inr (λu=>hz ((zv _).2 u)),rfl⟩))));obtain⟨z,v1,v2,v3,v4,v5,v6,r0,r1,r2,r3,r4,r5,r6,e0,e1,e2,e3,v,x,y⟩:=a.o.ends;clear L8;go_wp2;refine aF (aJ dz _ _ w.heap.size 67 _ _ _ rfl (m_ a.o.rb _ _ _ _ _ _ _) aP rfl (by kernel_rfl)) rfl ?_;exact a.o.res (ly _ _ _ _ _ _ _ _ _) q.o p.o
 ·have h:=gv (l.o 4);have z:=h.o.ends.1;clear l Z;go_wp2_with fail;refine(Ch h.o.mkr).mono ?_;rintro u L ⟨⟨F,ht,C,rfl⟩,s,A⟩;have i:=gv (h.o.step s A);clear s A h z;have t:=i.o.ends.2.2.2.1;have H:=ix 3 i.o.vb;have a:=gv (i.o.set 3 (.string (gC F)) rfl);have q:Hid (gR (λf=>c.heap.size+1<=f) (k+1) (L.setCell ⟨c.heap.size,3,none⟩ (.string (gC F))) _ _):=gR.leaf k 4 0 0 F;have p:Hid (hH o d (k+1) (hJ (VT k) 4 0 0 F)):=hH.leaf (Or.inr (Or.inr (Or.inr (Or.inr (Or.inl ⟨F,ht,λe hx=>⟨(C e hx).2 rfl,(C e hx).1⟩,rfl⟩)))));obtain⟨z,v1,v2,v3,v4,v5,v6,r0,r1,r2,r3,r4,r5,r6,e0,e1,e2,e3,v,x,y⟩:=a.o.ends;clear i C;go_wp2;refine aF (aJ dz _ _ w.heap.size 67 _ _ _ rfl (m_ a.o.rb _ _ _ _ _ _ _) aP rfl (by kernel_rfl)) rfl ?_;exact a.o.res (ly _ _ _ _ _ _ _ _ _) q.o p.o
 ·have h:=gv (l.o 5);have z:=h.o.ends.1;clear l Z;go_wp2_with fail;refine(Ch h.o.mkr).mono ?_;rintro u L ⟨⟨F,ht,C,rfl⟩,s,A⟩;have i:=gv (h.o.step s A);clear s A h z;have t:=i.o.ends.2.2.2.1;have H:=ix 3 i.o.vb;have a:=gv (i.o.set 3 (.string (gC F)) rfl);have q:Hid (gR (λf=>c.heap.size+1<=f) (k+1) (L.setCell ⟨c.heap.size,3,none⟩ (.string (gC F))) _ _):=gR.leaf k 5 0 0 F;have p:Hid (hH o d (k+1) (hJ (VT k) 5 0 0 F)):=hH.leaf (Or.inr (Or.inr (Or.inr (Or.inr (Or.inr (Or.inl ⟨F,ht,λe hx=>(C e hx).1,rfl⟩))))));obtain⟨z,v1,v2,v3,v4,v5,v6,r0,r1,r2,r3,r4,r5,r6,e0,e1,e2,e3,v,x,y⟩:=a.o.ends;clear i C;go_wp2;refine aF (aJ dz _ _ w.heap.size 67 _ _ _ rfl (m_ a.o.rb _ _ _ _ _ _ _) aP rfl (by kernel_rfl)) rfl ?_;exact a.o.res (ly _ _ _ _ _ _ _ _ _) q.o p.o
 ·have h:=gv (l.o 9);have z:=h.o.ends.1;clear l Z;go_wp2_with fail;refine(mo h.o.mkr o (by omega) (by omega)).mono ?_;rintro u L ⟨⟨e,hx,rfl⟩,s,A⟩;have i:=gv (h.o.step s A);clear s A h z;have t:=i.o.ends.2.1;have H:=ix 1 i.o.vb;have a:=gv (i.o.set 1 (.int .i64 (1+((e:Nat):Int))) rfl);have q:Hid (gR (λf=>c.heap.size+1<=f) (k+1) (L.setCell ⟨c.heap.size,1,none⟩ (.int .i64 (1+((e:Nat):Int)))) _ _):=gR.leaf k 9 (1+((e:Nat):Int)) 0 [];have p:Hid (hH o d (k+1) (hJ (VT k) 9 (1+((e:Nat):Int)) 0 [])):=hH.leaf (Or.inr (Or.inr (Or.inr (Or.inr (Or.inr (Or.inr ⟨1+e,by omega,by omega,by simp⟩))))));obtain⟨z,v1,v2,v3,v4,v5,v6,r0,r1,r2,r3,r4,r5,r6,e0,e1,e2,e3,v,x,y⟩:=a.o.ends;clear i;go_wp2;refine aF (aJ dz _ _ w.heap.size 67 _ _ _ rfl (m_ a.o.rb _ _ _ _ _ _ _) aP rfl (by kernel_rfl)) rfl ?_;exact a.o.res (ly _ _ _ _ _ _ _ _ _) q.o p.o
 ·obtain⟨dw,e8,bw,cm,_⟩:=(l.o (r:Int)).mkr;have cl:=oB cm;clear cm dw;by_cases hz:d=0\/bw<10
  ·have b2:=(l.o (r:Int)).ends.1;have H:=ix 0 (l.o (r:Int)).vb;have a:=gv (l.o 0);have q:=gv (gR.leaf (P:=λf=>c.heap.size+1<=f) (w:=c.alloc (.cells #[.int .i64 0,.int .i64 0,.int .i64 0,.string { data:=#[] },.slice none 0 0,.slice none 0 0,.slice none 0 0] 67)) k 0 0 0 []);have p:Hid (hH o d (k+1) (hJ (VT k) 0 0 0 [])):=hH.leaf (Or.inl rfl);have g5:5<r:=by omega
   have g9:r<9:=by omega
   obtain⟨z,v1,v2,v3,v4,v5,v6,r0,r1,r2,r3,r4,r5,r6,e0,e1,e2,e3,v,x,y⟩:=a.o.ends;clear l Z a7;by_cases dr:d=0
   ·subst dr;go_wp2;refine aF (aJ dz _ _ w.heap.size 67 _ _ _ rfl (m_ a.o.rb _ _ _ _ _ _ _) aP rfl (by kernel_rfl)) rfl ?_;exact a.o.res (ly _ _ _ _ _ _ _ _ _) q.o p.o
   ·have hl:bw<10:=by omega
    go_wp2;refine aF (aJ dz _ _ w.heap.size 67 _ _ _ rfl (m_ a.o.rb _ _ _ _ _ _ _) aP rfl (by kernel_rfl)) rfl ?_;exact a.o.res (ly _ _ _ _ _ _ _ _ _) q.o p.o
  ·have hl:¬ bw<10:=by omega
   obtain⟨d,rfl⟩:∃d',d=d'+1:=⟨d-1,by omega⟩;have g5:5<r:=by omega
   have g9:r<9:=by omega
   have di:=gv (IH.o d rfl);clear hz IH Z;have b2:=(l.o (r:Int)).ends.1;have H:=ix 0 (l.o (r:Int)).vb;rcases a7 with rfl | rfl | rfl;all_goals
    push_cast at cl b2 H
    go_wp2_with fail;first
     |refine(mo (l.o 6).mkr 5 (by omega) (by omega)).mono ?_
     |refine(mo (l.o 7).mkr 5 (by omega) (by omega)).mono ?_
    rintro u L ⟨⟨bb,hn,rfl⟩,s,A⟩;have LK:∃Y:Nat,(Y=6\/Y=7)/\Hid (Gr w bm c.heap.size Y k L (.slice none 0 0) [] [] (.slice none 0 0) [])/\Hid (Mk B bm L):=by
     first
      |exact⟨6,by omega,((l.o 6).step s A).gr,s⟩
      |exact⟨7,by omega,((l.o 7).step s A).gr,s⟩
    clear l cl b2 H s A;obtain⟨Y,E,G0,M0⟩:=LK;have co:bm<c.heap.size:=Nat.lt_trans G0.o.lt G0.o.le;go_wp2;go_loopw [8] (λa8 wr=>∃(bb:Nat) (iv:Value) (K:List Value) (Vs:List (VT k)) (kv:Value) (n:List (List Nat)),a8=.int .i64 bb/\bb+K.length<=4/\(Y=6->n=[])/\(Y=7->n.length=K.length)/\Hid (Gr w bm c.heap.size Y k wr iv K Vs kv n)/\Hid (Mk B bm wr)/\Hid (∀ao∈Vs,hH o d k ao)/\Hid (lS n)) (λa8 _=>(intOf a8).toNat)
    case atStart=>exact⟨bb,_,[],[],_,[],rfl,by simp;omega,λ_=>rfl,λ_=>rfl,G0,M0,λao hy=>(by cases hy),λa8 dc hs=>by simp at hs⟩
    clear G0 M0
    case round =>
     obtain⟨n2,iv,K,Vs,kv,n,rfl,eu,a0,a1,G,D,HY,HK⟩:=hrel;obtain⟨ia,ic,rfl⟩:=i_ G.o.own;obtain⟨ja,jc,rfl⟩:=i_ G.o.ownk;by_cases h0:n2=0
     ·subst h0;have a:Hid (Lf w B bm c.heap.size wr Y 0 0 { data:=#[] } (.slice ia K.length ic) (.slice ja n.length jc)):=⟨G.o.only,G.o.lt,G.o.le,G.o.rb,G.o.vb,D.o⟩;have q:=gv G.o.val;have bs:=gv G.o.len;have p:Hid (hH o (d+1) (k+1) (⟨Y,0,0,[],Vs,n,[]⟩:gz (VT k))):=by
       rcases E with rfl | rfl
       ·rw[a0 rfl];exact Or.inr (Or.inl ⟨Vs,by have:=bs.o;omega,HY.o,rfl⟩)
       ·exact Or.inr (Or.inr ⟨n,Vs,by have:=bs.o;have:=a1 rfl;omega,by have:=bs.o;omega,HK.o,HY.o,rfl⟩)
      obtain⟨z,v1,v2,v3,v4,v5,v6,r0,r1,r2,r3,r4,r5,r6,e0,e1,e2,e3,v,x,y⟩:=a.o.ends;clear G D HY HK a0 a1;go_wp2;refine aF (aJ dz _ _ w.heap.size 67 _ _ _ rfl (m_ a.o.rb _ _ _ _ _ _ _) aP rfl (by kernel_rfl)) rfl ?_;exact a.o.res (ly _ _ _ _ _ _ _ _ _) q.o p.o
     ·have HI:=gv (di.o wr D.o);rw[show(((d+1:Nat)):Int)=(d:Int)+1 by omega]at HI;have ey:=ae G.o.vb;go_wp2_with fail;refine HI.o.mono ?_;clear HI;rintro u X ⟨e9,cg,rfl,hV,ch,m4,k4,_⟩;have ck:=gv hV.cells;have b8:=gv hV;have b7:=gv ch;obtain⟨M,t,N,O,Q,R,T,U,V,W,v,x,y,rfl⟩:=gR.form hV;have G4:=gv (G.o.step k4);have b5:=((aj X.heap.size X).alloc (af _) (.cells #[.int .i64 M,.int .i64 t,.int .i64 N,.string O,.slice Q R T,.slice U V W,.slice v x y] 67));have ez:=k4.size;have G5:=gv (G4.o.below b5);have G6:=gv (G5.o.alloc (.cells #[.int .i64 M,.int .i64 t,.int .i64 N,.string O,.slice Q R T,.slice U V W,.slice v x y] 67));have x4:=pV G5.o.vb;have M6:Hid (Mk B bm ((X.alloc (.cells #[.int .i64 M,.int .i64 t,.int .i64 N,.string O,.slice Q R T,.slice U V W,.slice v x y] 67)).alloc (.cells #[.int .i64 M,.int .i64 t,.int .i64 N,.string O,.slice Q R T,.slice U V W,.slice v x y] 67))):=(m4.keep λb C=>b5.block b C).keep λb C=>((aj _ _).alloc (af _) _).block b C;have b9:Hid (gR (λf=>wr.heap.size<=f) k ((X.alloc (.cells #[.int .i64 M,.int .i64 t,.int .i64 N,.string O,.slice Q R T,.slice U V W,.slice v x y] 67)).alloc (.cells #[.int .i64 M,.int .i64 t,.int .i64 N,.string O,.slice Q R T,.slice U V W,.slice v x y] 67)) _ cg):=gR.keep k (gR.keep k b8.o λf _ hg=>b5.block f hg) λf _ hg=>((aj _ _).alloc (af _) _).block f hg;clear hV ch m4 k4 b5 b8 D;go_wp2_with (at_builtin;refine pZ _ rfl (.tmp 123) (.tmp 125) 29 rfl (c.heap.size+1) 67 i0 _ 7 112 cu hi d4 d5 d6 rfl (by decide) (.slice ia K.length ic) K.length (K.flatMap cellsOf) rfl G6.o.own ⟨X.heap.size+1,0,none⟩ 1 1 [.int .i64 M,.int .i64 t,.int .i64 N,.string O,.slice Q R T,.slice U V W,.slice v x y] rfl rfl ?hnews ?hone ?h63 ?hby ?hbs ?_)
      case hnews=>intro bt dd hu;rw[aa,cb (show((X.alloc (.cells #[.int .i64 M,.int .i64 t,.int .i64 N,.string O,.slice Q R T,.slice U V W,.slice v x y] 67)).alloc (.cells #[.int .i64 M,.int .i64 t,.int .i64 N,.string O,.slice Q R T,.slice U V W,.slice v x y] 67)).heap[X.heap.size+1]?=some (.cells #[.int .i64 M,.int .i64 t,.int .i64 N,.string O,.slice Q R T,.slice U V W,.slice v x y] 67 (0,0))from by have:=jd (X.alloc (.cells #[.int .i64 M,.int .i64 t,.int .i64 N,.string O,.slice Q R T,.slice U V W,.slice v x y] 67)) (.cells #[.int .i64 M,.int .i64 t,.int .i64 N,.string O,.slice Q R T,.slice U V W,.slice v x y] 67);simpa using this)];simpa using hu
      case hone=>exact ck.o.2
      case h63=>unfold maxLen;omega
      case hby=>omega
      case hbs=>simp;omega
      intro v7 w7 bz a5 db;have cr:=(G6.o.kept (v':=v7) (j:=4) (λf u=>(G6.o.own.lt f u).1) a5).2.1;have G7:=gv (G6.o.item (S:=wr.heap.size) (λf hg=>(G.o.own.lt f hg).2) (λf hg=>(G.o.ownk.lt f hg).2) (by omega) b9.o bz a5 (λf hg=>by have:=db f hg;simpa using this));have M7:=gv (M6.o.low co cr);have br:w7.heap[c.heap.size]?=some (.cells #[.int .i64 (Y:Int),.int .i64 0,.int .i64 0,.string { data:=#[] },.slice ia K.length ic,.slice ja n.length jc,.slice none 0 0] 67 (0,0)):=(a5.block _ (ae G6.o.vb) (λu=>by have:=(G6.o.own.lt _ u.symm).1;omega)).trans G6.o.vb;have y4:=pV br;have z4:=ix 4 br;obtain⟨a9,ba,d2⟩:=i_ bz;subst d2;have cd:Hid (∀ao∈Vs++[cg],hH o d k ao):=λao hy=>by
       rcases bH.1 hy with hy | hy;·exact HY.o ao hy
       ·rcases cc.1 hy with rfl;exact b7.o
      have x0:=mb G7.o.vb;clear bz a5 db br cr G6 G5 G4 G b9 M6 HY b7 ck x4;rcases E with rfl | rfl
      ·have a6:=gv (a0 rfl);clear a0 a1;have y0:(w7.setCell ⟨c.heap.size,4,none⟩ (.slice a9 (K.length+1) ba)).cell? ⟨c.heap.size,0,none⟩=some (.int .i64 6):=x0;clear x0;go_wp2;go_roundw
       case rel=>exact⟨n2-1,_,_,_,_,n,by go_num,by simp;omega,λ_=>a6.o,λal=>(by cases al),G7,M7,cd,HK⟩
       case measure=>simp[intOf];omega
      ·have a6:=gv (a1 rfl);have es:n.length<=4:=by have:=a6.o;omega
       clear a0 a1;have y0:(w7.setCell ⟨c.heap.size,4,none⟩ (.slice a9 (K.length+1) ba)).cell? ⟨c.heap.size,0,none⟩=some (.int .i64 7):=x0;have HC:Hid ((w7.setCell ⟨c.heap.size,4,none⟩ (.slice a9 (K.length+1) ba)).cell? ⟨c.heap.size,5,none⟩=some (.slice ja n.length jc)):=by unfold Hid;rw[cb G7.o.vb];rfl
       have et:=ae G7.o.vb;clear x0;go_wp2_with fail;generalize w7.setCell ⟨c.heap.size,4,none⟩ (.slice a9 (K.length+1) ba)=w8 at *;refine p7 (nj 10 c.heap.size 5 (.slice ja n.length jc)) (by kernel_rfl) ?_;intro g;have j:nj 10 c.heap.size 5 (.slice ja n.length jc) (Array.replicate 11 false) w8.drew:=λ_=>HC.o;refine ti 0 ?_ g j ?_;clear g j;intro g j;(try simp only[gB])
       refine tk 1 ?_ g ?_ j ?_;rotate_left;·intro dk hW;obtain⟨h,bc,hL,bi⟩:=hW;have dp:=bi (by cases h9:h.getD 10 false with | false=>rfl | true=>exact absurd (bc.came 3 10 (by kernel_rfl) h9) (by rw[zU hL];decide));go_simp;try(with_reducible rfl)
       clear g j;intro g j;(try simp only[gB])
       refine ti 2 ?_ g j ?_;clear g j;intro g j;(try simp only[gB])
       refine ti 3 ?_ g j ?_;clear g j;intro g j;(try simp only[gB])
       refine tk 4 ?_ g ?_ j ?_;rotate_left;·intro dk hW;obtain⟨h,bc,hL,bi⟩:=hW;have dp:=bi (by cases h9:h.getD 10 false with | false=>rfl | true=>exact absurd (bc.came 6 10 (by kernel_rfl) h9) (by rw[zU hL];decide));go_simp;try(with_reducible rfl)
       clear g j;intro g j;(try simp only[gB])
       refine ti 5 ?_ g j ?_;clear g j;intro g j;(try simp only[gB])
       refine on 6 g λK' E=>?_;go_simp;have b6:=gv (Ju (M7.o.keep (w':=w8.drew) λb C=>rfl) n.length (by omega));refine b6.o.mono ?_;clear b6;rintro u w9 ⟨⟨F,ht,cw,rfl⟩,m9,k9⟩;have G9:=gv (G7.o.drew.step k9);have b4:Hid (w9.cell? ⟨c.heap.size,5,none⟩=some (.slice ja n.length jc)):=by unfold Hid;rw[cb G9.o.vb];rfl
       refine E.o _ _ (λ_=>b4.o) (λI J=>?_);clear g j E K';have g:=I;have j:=J;clear I J
       (try simp only[gB])
       refine on 7 g λK' E=>?_;go_simp;have ad:=gv (G9.o.alloc (.cells #[.string (gC ((65+n.length)::F))] 9));have b3:Hid ((w9.alloc (.cells #[.string (gC ((65+n.length)::F))] 9)).cell? ⟨c.heap.size,5,none⟩=some (.slice ja n.length jc)):=by unfold Hid;rw[cb ad.o.vb];rfl
       refine E.o _ _ (λ_=>b3.o) (λI J=>?_);clear g j E K';have g:=I;have j:=J;clear I J
       (try simp only[gB])
       refine on 8 g λK' E=>?_;have e7:=ae G9.o.vb;refine vX rfl (.tmp 132) (.tmp 138) 38 rfl (c.heap.size+1) 9 j0 _ 1 16 d_ ji ea eb ec rfl (by decide) (.slice ja n.length jc) n.length (n.map λdc=>.string (gC dc)) rfl ad.o.ownk ⟨w9.heap.size,0,none⟩ 1 1 [.string (gC ((65+n.length)::F))] rfl rfl ?hnews ?hone ?h63 ?hby ?hbs ?_
       case hnews=>intro bt dd hu;rw[aa,cb (jd w9 _)];simpa using hu
       case hone=>intro dd hu;simp at hu;subst hu;rfl
       case h63=>unfold maxLen;omega
       case hby=>omega
       case hbs=>simp;omega
       intro ei ej bx a4 da;have cp:=(ad.o.kept (v':=ei) (j:=5) (λf u=>(ad.o.ownk.lt f u).1) a4).2.1;have de:=gv (ad.o.key bx a4 da);have dj:=gv (Mk.low (m9.keep (w':=w9.alloc (.cells #[.string (gC ((65+n.length)::F))] 9)) λb C=>((aj _ _).alloc (af _) _).block b C) co cp);have bq:=(a4.block _ (ae ad.o.vb) (λu=>by have:=(ad.o.ownk.lt _ u.symm).1;omega)).trans ad.o.vb;have bn:=rj bq;have ds:=ix 5 bq;obtain⟨ka,kc,d3⟩:=i_ bx;subst d3;have dg:=gv (HK.o.snoc ht cw);clear bx a4 da bq cp ad G9 G7 M7 m9 k9 b3 b4 HC HK cw;refine E.o _ _ (λ_=>bn) (λI J=>?_);clear g j E K';have g:=I;have j:=J;clear I J
       (try simp only[gB])
       refine on 9 g λK' E=>?_;go_simp;refine E.o _ _ (λ_=>bn) (λI J=>?_);clear g j E K';have g:=I;have j:=J;clear I J
       (try simp only[gB])
       refine on 10 g λK' E=>?_;go_simp;refine E.o _ _ (λh9=>by cases h9) (λI J=>?_);clear g j E K';have g:=I;have j:=J;clear I J
       (try simp only[gB])
       refine mI (by kernel_rfl) ?_ _;clear g j bn ds;generalize ej.setCell ⟨c.heap.size,5,none⟩ (.slice ka (n.length+1) kc)=fa at *;go_wp2;go_roundw
       case rel=>exact⟨n2-1,_,_,_,_,_,by go_num,by simp;omega,λal=>(by cases al),λ_=>by simp[a6.o],de,dj,cd,dg⟩
       case measure=>simp[intOf];omega
end
section
def s5:{k:Nat}->VT k->VT (k+1)
 |0,a=>(show Empty from a).elim
 |k+1,a=>(⟨gz.kind a,gz.n a,gz.places a,gz.text a,(gz.items a).map (s5 (k:=k)),gz.keys a,gz.filters a⟩:gz (VT (k+1)))
theorem gR.ups{d:Nat->Prop}{g:World}:∀(k:Nat) {c:Value} {a:VT k},gR d k g c a->gR d (k+1) g c (s5 a)
 |0,_,_,b=>b.elim
 |k+1,c,a,b=>by obtain⟨r,s,h,t,i,j,h3,l,m,n⟩:=b;refine⟨r,s,h,t,i,by rw[j];exact(av _).symm,h3,λf u v o p=>?_,m,n⟩;have e:((gz.items a).map (s5 (k:=k)))[f]?=some v:=p;rw[bj]at e;obtain⟨w,q,rfl⟩:=Option.map_eq_some_iff.1 e;exact gR.ups k (l f u w o q)
theorem lU.up{g k:Nat}{f:gz (VT k)}(h:lU g f):lU g (show gz (VT (k+1))from s5 (k:=k+1) f):=by
 rcases h with rfl | ⟨b,j,rfl⟩ | ⟨b,a,d,rfl⟩ | ⟨b,l,a,d,h3,i,rfl⟩ | ⟨e,c,a,rfl⟩ | ⟨e,c,a,rfl⟩ | ⟨b,c,a,rfl⟩;·exact Or.inl rfl
 ·exact Or.inr (Or.inl ⟨b,j,rfl⟩)
 ·exact Or.inr (Or.inr (Or.inl ⟨b,a,d,rfl⟩))
 ·exact Or.inr (Or.inr (Or.inr (Or.inl ⟨b,l,a,d,h3,i,rfl⟩)))
 ·exact Or.inr (Or.inr (Or.inr (Or.inr (Or.inl ⟨e,c,a,rfl⟩))))
 ·exact Or.inr (Or.inr (Or.inr (Or.inr (Or.inr (Or.inl ⟨e,c,a,rfl⟩)))))
 ·exact Or.inr (Or.inr (Or.inr (Or.inr (Or.inr (Or.inr ⟨b,c,a,rfl⟩)))))
theorem hH.up{f:Nat}:∀(c k:Nat) {d:VT k},hH f c k d->hH f c (k+1) (s5 d)
 |_,0,_,a=>by cases ‹Nat› <;> exact a.elim
 |0,k+1,d,a=>lU.up a
 |c+1,k+1,d,a=>by
  have e:∀b:List (VT k),(∀g∈b,hH f c k g)->∀g∈b.map (s5 (k:=k)),hH f c (k+1) g:=λb e g l=>by obtain⟨o,m,rfl⟩:=cv.1 l;exact hH.up c k (e o m)
  rcases a with a | ⟨b,h,i,rfl⟩ | ⟨n,b,h,i,h3,j,rfl⟩;·exact Or.inl (lU.up a)
  ·exact Or.inr (Or.inl ⟨_,by rw[av];exact h,e b i,rfl⟩)
  ·exact Or.inr (Or.inr ⟨n,_,by rw[av];exact h,by rw[av];exact i,h3,e b j,rfl⟩)
def nL(c:Nat)(a:gz (VT 11)):Prop:=a.kind=8/\a.n=0/\a.places=0/\a.keys.length=a.items.length/\a.items.length<=4/\lS a.keys/\(∀e∈a.items,hH c 2 11 e)/\a.text.length<=40/\(∀d∈a.text,d<256)/\a.filters.length<=3/\∀b∈a.filters,1<=b/\b<=4
def jT(o:Nat)(a:VT 12):Prop:=hH o 3 12 a\/(∃b:VT 11,hH o 3 11 b/\a=(⟨7,0,0,[],[b],[[65]],[]⟩:gz (VT 11)))\/nL o a
def n6(a:VT 12):Nat:=if kO a=8 then(tO a).length else 0
def i8:List (VT 12)->Nat
 | []=>0
 |a::b=>n6 a+i8 b
theorem lQ(b:VT 12):∀a:List (VT 12),i8 (a++[b])=i8 a+n6 b
 | []=>by simp[i8]
 |c::a=>by rw[cj,i8,i8,lQ b a];omega
theorem hH.kind{h d k:Nat}{c:VT k}(a:hH h d k c):kO c≠8:=by
 have g:∀{k:Nat} {c:gz (VT k)},lU h c->c.kind≠8:=λa=>by rcases a with rfl | ⟨n,m,rfl⟩ | ⟨n,b,e,rfl⟩ | ⟨n,p,b,e,h3,i,rfl⟩ | ⟨l,f,b,rfl⟩ | ⟨l,f,b,rfl⟩ | ⟨n,f,b,rfl⟩<;>simp[hJ]
 cases k with
 |zero=>cases d<;>exact a.elim
 |succ k =>
  cases d with
  |zero=>exact g a
  |succ d =>
   rcases a with a | ⟨j,b,e,rfl⟩ | ⟨o,j,b,e,h3,i,rfl⟩;·exact g a
   ·simp[kO]
   ·simp[kO]
theorem hH.dict{j:Nat}{d:VT 11}(a:hH j 3 11 d)(i:kO d=7):∃(e:List (List Nat)) (c:List (VT 10)),e.length=c.length/\c.length<=4/\lS e/\(∀l∈c,hH j 2 10 l)/\d=(⟨7,0,0,[],c,e,[]⟩:gz (VT 10)):=by
 rcases a with a | ⟨c,b,h,rfl⟩ | a;·rcases a with rfl | ⟨f,n,rfl⟩ | ⟨f,b,h,rfl⟩ | ⟨f,o,b,h,h3,m,rfl⟩ | ⟨k,g,b,rfl⟩ | ⟨k,g,b,rfl⟩ | ⟨f,g,b,rfl⟩<;>cases i
 ·cases i
 ·exact a
theorem pX{c:Nat}{e:List (VT 12)}{d:VT 12}(f:∀a∈e,jT c a)(g:jT c d):∀a∈e++[d],jT c a:=λa b=>by
 rcases bH.1 b with b | b;·exact f a b
 ·rcases cc.1 b with rfl;exact g
theorem oe{b:List (VT 12)}{d:VT 12}(f:∃a,b[0]?=some a/\kO a=7):∃a,(b++[d])[0]?=some a/\kO a=7:=by obtain⟨e,c,g⟩:=f;exact⟨e,by rw[aI (aX.1 c).1];exact c,g⟩
theorem hH.slen_up{c:Nat}{a:VT 11}(b:hH c 3 11 a):n6 (s5 a)=0:=au (hH.kind (hH.up 3 11 b))
variable{w w' r:World}{B bm bd:Nat}{m:Value}{vs:List Value}{q:List (VT 12)}
structure Dg(r:World)(B bm bd:Nat)(w:World)(m:Value)(vs:List Value)(q:List (VT 12)):Prop where
 only:gQ bm r w
 lt:bm<r.heap.size
 le:r.heap.size<bd
 rb:w.heap[r.heap.size]?=some (.cells #[.slice none 0 0,.int .i64 0] 31 (0,0))
 db:w.heap[bd]?=some (.cells #[m,.int .i64 1] 31 (0,0))
 own:w.ownsRow (bd+1) 67 7 m vs.length (vs.flatMap cellsOf)
 len:vs.length=q.length
 ch:∀(i:Nat) (x:Value) (y:VT 12),vs[i]?=some x->q[i]?=some y->gR (λg=>bd+1<=g/\m.ownBlock≠some g) 12 w x y
theorem Dg.step(a:Dg r B bm bd w m vs q)(e:gQ bm w w'):Dg r B bm bd w' m vs q:=by
 have n:=a.lt;have l:=a.le;have c:∀b,r.heap.size<=b->b<w.heap.size->w'.heap[b]?=w.heap[b]?:=λb f d=>e.block b d (by omega);refine⟨a.only.trans e,a.lt,a.le,?_,?_,ul a.own e (by omega),a.len,λi j k g h=>?_⟩;·rw[c _ (af _) (ae a.rb)];exact a.rb
 ·rw[c _ (by omega) (ae a.db)];exact a.db
 ·exact gR.keep 12 (a.ch i j k g h) (λb f d=>c b (by omega) d)
theorem Dg.below(a:Dg r B bm bd w m vs q)(b:Below w.heap.size w w'):Dg r B bm bd w' m vs q:=a.step (.of_below b)
theorem Dg.alloc(b:Dg r B bm bd w m vs q)(a:Obj):Dg r B bm bd (w.alloc a) m vs q:=b.below ((aj _ _).alloc (af _) a)
theorem Dg.obj(c:Dg r B bm bd w m vs q)(F:Mk B bm w){n:Value}{u:VT 12}{o:Nat}(x:∀b,m.ownBlock=some b->b<o)(I:bd+1<=o)(G:gR (λb=>o<=b) 12 w n u){g:Value}
  (A:w'.ownsRow (bd+1) 67 7 g (vs.length+1) (vs.flatMap cellsOf++cellsOf n)) (j:w.grownBy w' m.ownBlock) (D:∀b,g.ownBlock=some b->m.ownBlock=some b\/w.heap.size<=b) :
  Dg r B bm bd (w'.setCell ⟨bd,0,none⟩ g) g (vs++[n]) (q++[u])/\Mk B bm (w'.setCell ⟨bd,0,none⟩ g)/\w'.heap[bd]?=some (.cells #[m,.int .i64 1] 31 (0,0)):=by
 have K:=c.lt;have E:=c.le;have L:=c.only.size;have C:∀b,m.ownBlock=some b->bd+1<=b:=λb d=>(c.own.lt b d).1;have z:∀b,b<w.heap.size->m.ownBlock≠some b->b≠bd->(w'.setCell ⟨bd,0,none⟩ g).heap[b]?=w.heap[b]?:=λb e f h3=>by rw[jL _ h3,j.block b e (λd=>f d.symm)]
 have p:∀b,b<bd->b<w.heap.size->(w'.setCell ⟨bd,0,none⟩ g).heap[b]?=w.heap[b]?:=λb e f=>z b f (λd=>by have:=C b d;omega) (by omega);have y:w'.heap[bd]?=some (.cells #[m,.int .i64 1] 31 (0,0)):=(j.block _ (ae c.db) (λd=>by have:=C _ d.symm;omega)).trans c.db;refine⟨⟨⟨j.os.trans c.only.os,j.tape.trans c.only.tape,j.output.trans c.only.output,by have:=j.size;simp[World.setCell];omega,λb e f=>(p b (by omega) (by omega)).trans (c.only.block b e f)⟩,c.lt,c.le,by rw[p _ E (ae c.rb)];exact c.rb,?_,?_,by rw[ab,ab,c.len];rfl,?_⟩,F.low (by omega) p,y⟩;·rw[lq _ y];rfl
 ·rw[ab,cx];have:=aR (a:=⟨bd,0,none⟩) A (λd=>absurd (A.lt bd d).1 (by omega)) g;simpa using this
 ·intro s t v h i;have H:gR (λb=>bd+1<=b/\m.ownBlock≠some b/\g.ownBlock≠some b) 12 w t v:=by
   rcases bZ s vs.length with k | k
   ·rw[aI k]at h;rw[aI (by rw[<-c.len];exact k)]at i;refine gR.mono 12 (c.ch s t v h i) (λb e f=>⟨e.1,e.2,λd=>?_⟩);rcases D b d with l | l;·exact e.2 l
    ·omega
   ·rw[ar k]at h;rw[ar (by rw[<-c.len];exact k)]at i;rw[<-c.len]at i;obtain⟨rfl,rfl⟩:n=t/\u=v:=by
     match J:s-vs.length,h,i with
     |0,h,i=>exact⟨by simpa using h,by simpa using i⟩
     |M+1,h,i=>simp at h
    refine gR.mono 12 G (λb e f=>⟨by omega,λd=>?_,λd=>?_⟩);·have:=x b d;omega
    ·rcases D b d with l | l;·have:=x b l;omega
     ·omega
  refine gR.mono 12 (gR.keep 12 H (λb e f=>z b f e.2.1 (by omega))) (λb e _=>⟨e.1,e.2.2⟩)
theorem Dp{e:Nat}(c:0<e)(d:e<=6):∀(a k:Nat),a<=3->xT B bm a (k+a+1) e
 |0,k,_=>F4 c d (by omega) (λf b=>by cases b)
 |a+1,k,b=>F4 c d b (λf g=>by obtain rfl:a=f:=Nat.succ.inj g;exact Dp c d a k (by omega))
end
end Go.Proofs.YtgkljcmjnphpeaaGreatDoor
