import Derived.Test.YtgkljcmjnphpeaaGreatDoorK31
set_option linter.unusedVariables false
set_option linter.unusedSimpArgs false
set_option maxHeartbeats 4000000
set_option maxRecDepth 100000
namespace Go.Proofs.YtgkljcmjnphpeaaGreatDoor
open Go.RowKit
section
variable{w w':World}{B bw bm g1 g2 cap T:Nat}{data:List Nat}{ao:Option Addr}{bs:List Bool}{at_:Nat}{rest:List Value}
theorem De.write{bs':List Bool}(h:De B bw bm g1 g2 cap data ao w bs at_)(k:Kept 5 B [bw] w w')
  (hx:Wx B bw 194 [.slice ao data.length cap,.int .i64 at_,.map (some bm),.slice (some ⟨g1,0,none⟩) 288 288,.slice (some ⟨g2,0,none⟩) 32 32] w' bs'):De B bw bm g1 g2 cap data ao w' bs' at_:=by
 obtain⟨n1,n2,n3,_⟩:=h.ne
 obtain⟨_,_,_,_,_,hbw,_⟩:=h.cells
 obtain⟨es,clock,m1,m2⟩:=h.st
 obtain⟨C1,a1,a2⟩:=h.r1
 obtain⟨C2,b1,b2⟩:=h.r2
 refine⟨hx,?_,h.byt,h.len,h.lc,h.hat,⟨es,clock,k.block bm _ (by simp[n1]) m1 (Or.inr (by intro c fz e;cases e)),m2⟩,⟨C1,k.block g1 _ (by simp[n2]) a1 (Or.inr (by intro c fz e;simp at e)),a2⟩,⟨C2,k.block g2 _ (by simp[n3]) b1 (Or.inr (by intro c fz e;simp at e)),b2⟩,h.hbm⟩
 intro i hi
 obtain⟨b,o,e1,e2,e3⟩:=h.dat i hi
 exact⟨b,o,e1,e2,k.cell (by simpa using hbw) e2 e3⟩
theorem cBe(t:List (Nat × Nat))(s:Nat):Fo.codeBits t s=Fo.highBits (tnth t s).1 (tnth t s).2:=rfl
theorem CodeRow.cellsAt{g:Nat}{t:List (Nat × Nat)}(h:CodeRow w g t)(s:Nat)(hs:s<t.length):w.cell? ⟨g,s*2,none⟩=some (.int .i64 ((tnth t s).1:Nat))∧w.cell? ⟨g,s*2+1,none⟩=some (.int .i64 ((tnth t s).2:Nat)):=by
 obtain⟨C,h1,_,h3⟩:=h
 obtain⟨e1,e2⟩:=h3 s hs
 exact⟨by rw[ceb h1];exact e1,by rw[ceb h1];exact e2⟩
def PD(B bw bm g1 g2 cap:Nat)(data:List Nat)(ao:Option Addr)(w:World)(bs:List Bool)(at_:Nat)(w':World):Prop:=
 ∃(p:List Bool) (n:Nat),0<n∧at_+n≤data.length∧De B bw bm g1 g2 cap data ao w' (bs++p) (at_+n)∧(∀ eb,Fo.Enc data at_ eb→Fo.Enc data (at_+n) (eb++p))∧p.length≤40*n∧(Alike data→(n=1∧p.length≤9∧(at_=0∨data.length<at_+3))∨(n=min 258 (data.length-at_)∧0<at_∧p.length≤19))∧Kept 5 B [bw,bm] w w'
theorem lit_le(h:De B bw bm g1 g2 cap data ao w bs at_)(hlt:at_<data.length) :
  ∃(b o s X Y:Nat),ao=some ⟨b,o,none⟩∧b<B∧s<256∧Y≤9∧X<1024∧w.cell? ⟨b,o+at_,none⟩=some (.int .u8 (s:Nat))∧w.cell? ⟨g1,s*2,none⟩=some (.int .i64 (X:Nat))∧w.cell? ⟨g1,s*2+1,none⟩=some (.int .i64 (Y:Nat)) ∧
   (∀ eb,Fo.Enc data at_ eb→Fo.Enc data (at_+1) (eb++Fo.highBits X Y)):=by
 obtain⟨b,o,e1,e2,e3⟩:=h.dat.at (by omega)
 have hs:=h.byt at_ hlt
 have ht:=taFl ⟨nth data at_,by omega⟩
 simp only[]at ht
 obtain⟨q0,q1⟩:=h.r1.cellsAt (nth data at_) (by rw[tFl];omega)
 refine⟨b,o,nth data at_,_,_,e1,e2,hs,ht.2,ht.1,e3 at_ hlt,q0,q1,fun eb he=>?_⟩
 refine he.lit hlt (fun x hx=>?_)
 obtain⟨i,hi,rfl⟩:=List.getElem_of_mem hx
 have:=h.byt i hi
 simpa[nth,hi]using this
theorem De.code1(h:De B bw bm g1 g2 cap data ao w bs at_)(S X Y:Nat)(hS:S<288)(hXY:tnth Fo.tabF S=(X,Y)):w.cell? ⟨g1,S*2,none⟩=some (.int .i64 (X:Nat))∧w.cell? ⟨g1,S*2+1,none⟩=some (.int .i64 (Y:Nat)):=by
 have:=h.r1.cellsAt S (by rw[tFl];exact hS)
 rw[hXY]at this;exact this
theorem De.code2(h:De B bw bm g1 g2 cap data ao w bs at_)(S X Y:Nat)(hS:S<32)(hXY:tnth Fo.tadF S=(X,Y)):w.cell? ⟨g2,S*2,none⟩=some (.int .i64 (X:Nat))∧w.cell? ⟨g2,S*2+1,none⟩=some (.int .i64 (Y:Nat)):=by
 have:=h.r2.cellsAt S (by rw[tFl_];exact hS)
 rw[hXY]at this;exact this
theorem De.drew(h:De B bw bm g1 g2 cap data ao w bs at_):De B bw bm g1 g2 cap data ao w.drew bs at_:=h.below (Below.refl _ _).drew
theorem De.alloc(h:De B bw bm g1 g2 cap data ao w bs at_)(o:Obj):De B bw bm g1 g2 cap data ao (w.alloc o) bs at_:=h.below ((Below.refl _ _).alloc (Nat.le_refl _) o)
theorem Kept.two{e B:Nat}{a b:World}(h:Kept e B [bw] a b):Kept e B [bw,bm] a b:=h.mono (fun k hk=>by simp at hk;simp[hk])
theorem keo{e B:Nat}{S:List Nat}{a b:World}(h:Below a.heap.size a b):Kept e B S a b:=Kept.thenBelow (Kept.refl _ _ _ _) h
theorem tFf:∀ s:Fin 30,(tnth Fo.tadF s.val).2≤5:=by decide +kernel
theorem dio:Fo.distSpan (Fo.distSym 1)=(1,0):=by decide +kernel
theorem pae{α β:Type}(x:α × β):∃ a b,x=(a,b):=⟨x.1,x.2,rfl⟩
theorem cop{l d:Nat}(m1:3≤l)(m2:l≤258)(m3:1≤d)(m4:d≤32768)(m5:d≤at_)(m6:at_+l≤data.length)(m7:∀ i,i<l→nth data (at_+i)=nth data (at_-d+i)) :
  ∃ S X Y x1 x2 D X2 Y2 y1 y2:Nat,Fo.lenSym l=S∧Fo.distSym d=D∧257≤S∧S≤285∧D≤29∧tnth Fo.tabF S=(X,Y)∧tnth Fo.tadF D=(X2,Y2)∧Fo.lenSpan S=(x1,x2)∧Fo.distSpan D=(y1,y2) ∧
   (X<1024∧Y≤9∧X2<1024∧Y2≤5∧x1≤l∧x2≤5∧y1≤d∧y2≤13∧(d=1→y2=0)) ∧
   (∀ eb,Fo.Enc data at_ eb→Fo.Enc data (at_+l) (eb++(Fo.highBits X Y++(Fo.numBits x2 (l-x1)++(Fo.highBits X2 Y2++Fo.numBits y2 (d-y1)))))):=by
 obtain⟨a1,a2,a3,_⟩:=Fo.lenSym_ok ⟨l-3,by omega⟩
 simp only[show l-3+3=l by omega]at a1 a2 a3
 obtain⟨b1,b2,_⟩:=Fo.distSym_ok d m3 m4
 have l1:=lSl ⟨Fo.lenSym l,by omega⟩ a1
 have l2:=dSl ⟨Fo.distSym d,by omega⟩
 have t1:=taFl ⟨Fo.lenSym l,by omega⟩
 have t2:=tF0 ⟨Fo.distSym d,by omega⟩
 have t5:=tFf ⟨Fo.distSym d,by omega⟩
 simp only[]at l1 l2 t1 t2 t5
 obtain⟨X,Y,hXY⟩:=pae (tnth Fo.tabF (Fo.lenSym l))
 obtain⟨X2,Y2,hXY2⟩:=pae (tnth Fo.tadF (Fo.distSym d))
 obtain⟨x1,x2,hx⟩:=pae (Fo.lenSpan (Fo.lenSym l))
 obtain⟨y1,y2,hy⟩:=pae (Fo.distSpan (Fo.distSym d))
 have hcb:Fo.copyBits l d=Fo.highBits X Y++(Fo.numBits x2 (l-x1)++(Fo.highBits X2 Y2++Fo.numBits y2 (d-y1))):=by
  unfold Fo.copyBits
  rw[cBe,cBe,hXY,hXY2,hx,hy]
 rw[hXY]at t1
 rw[hXY2]at t2 t5
 rw[hx]at l1 a3
 rw[hy]at l2 b2
 refine⟨Fo.lenSym l,X,Y,x1,x2,Fo.distSym d,X2,Y2,y1,y2,rfl,rfl,a1,a2,b1,hXY,hXY2,hx,hy,⟨t1.1,t1.2,t2.1,t5,a3,l1.1,b2,l2.1,fun hd=>by subst hd;rw[dio]at hy;cases hy;rfl⟩,fun eb he=>?_⟩
 rw[←hcb]
 exact he.copy l d m1 m2 m3 m4 m5 m6 m7
theorem dpo(h:De B bw bm g1 g2 cap data ao w bs at_)(hlt:at_<data.length)(hl:bs.length+100≤1099511627776) :
  Calls Tryz.prog 204 #[.pointer (some ⟨bw,0,none⟩)] w fun e w'=>e=.returned (.tuple #[])∧PD B bw bm g1 g2 cap data ao w bs at_ w':=by
 have HM:=hide (mo h)
 have H:=hide h
 have hlen:=h.len
 clear h
 go_enter Tryz.func204,Tryz.ntmps204
 go_wp2_with fail
 refine HM.o.mono ?_
 rintro e w1 ⟨l,d,rfl,b1,hal,hm⟩
 have HAL:=hide hal
 clear hal
 have H1:=hide (H.o.below b1)
 have B1:=hide b1
 clear HM H b1
 rcases hm with rfl | ⟨m1,m2,m3,m4,m5,m6,m7⟩
 ·obtain⟨b,o,s,X,Y,rfl,hb,hs,hY,hX,d0,q0,q1,henc⟩:=lit_le H1.o hlt
  have HEN:=hide henc
  obtain⟨c2,c3,_,c5,_,hbw,hbl,_⟩:=H1.o.cells
  have hlc:=H1.o.lc
  clear henc
  have HC:=hide (wco (w:=w1.drew) (H1.o.wx.drew) (X,Y) (by show X<_;omega) (by show Y≤_;omega) (by show _+Y≤_;omega))
  unfold cV at HC
  go_wp2_with fail
  go_region_with (go_at_call 205;refine HC.o.mono ?_;rintro e w2 ⟨rfl,hx2,k2⟩)
  all_goals (
   have H2:=hide (De.write H1.o.drew k2 hx2)
   have K2:=hide (((keo (e:= 5) (B:=B) (S:=[bw,bm]) B1.o).drew).trans (Kept.two k2))
   clear HC H1 B1 c2 c3 c5 q0 q1 d0 hx2 k2
   go_wp2_with fail
   refine(so_3 1 H2.o (by omega)).mono ?_
   rintro e w3 ⟨rfl,h3,k3⟩
   go_wp2
   refine bodyPost_ret (v:=.tuple #[]) (by simp[results,Tryz.results204,go_sem]) rfl ⟨rfl,_,1,by omega,by omega,h3,HEN.o,by rw[hBl];omega,fun ha=>Or.inl ⟨rfl,by rw[hBl];exact hY,by
    rcases Nat.eq_zero_or_pos at_ with c | c
    ·exact Or.inl c
    ·refine Or.inr (Nat.lt_of_not_le fun c3=>?_)
     have:=(HAL.o ha c c3).1
     omega⟩,K2.o.trans k3⟩)
 ·have e0:((l:Int)==0)=false:=by simp;omega
  obtain⟨S,X,Y,x1,x2,D,X2,Y2,y1,y2,hS,hD,a1,a2,a3,tXY,tXY2,sx,sy,hnum,henc⟩:=cop (data:=data) m1 m2 m3 m4 m5 m6 m7
  have HEN:=hide henc
  have HT1:=hide tXY
  have HT2:=hide tXY2
  have NUM:=hide hnum
  have HLS:=hide (leSo l m1 m2)
  have HLD:=hide (diSo d m3 m4)
  have HSP:=hide (lSo S a1 a2)
  have HSD:=hide (dSo D a3)
  rw[hS]at HLS
  rw[hD]at HLD
  rw[sx]at HSP
  rw[sy]at HSD
  clear henc tXY tXY2 hnum sx sy hS hD m7
  go_wp2_with fail
  refine(HLS.o _).mono ?_
  rintro e w2 ⟨rfl,b2⟩
  have H2:=hide (H1.o.below b2)
  have B2:=hide (B1.o.trans (b2.mono B1.o.size))
  clear H1 B1 b2 HLS
  have H2d:=hide (H2.o.drew)
  obtain⟨_,_,_,c5,_,hbw,hbl,_⟩:=H2.o.cells
  obtain⟨q0,q1⟩:=H2.o.code1 S X Y (by omega) HT1.o
  have HC:=hide (wco (w:=w2.drew) H2d.o.wx (X,Y) (by have:=NUM.o;show X<_;omega) (by have:=NUM.o;show Y≤_;omega) (by have:=NUM.o;show _+Y≤_;omega))
  unfold cV at HC
  go_wp2_with fail
  go_region_with (go_at_call 205;refine HC.o.mono ?_;rintro e w3 ⟨rfl,hx3,k3⟩)
  have H3:=hide (De.write H2d.o k3 hx3)
  have K3:=hide (((keo (e:= 5) (B:=B) (S:=[bw,bm]) B2.o).drew).trans (Kept.two k3))
  clear HC H2 H2d B2 c5 q0 q1 hx3 k3 hbw hbl
  go_wp2_with fail
  refine(HSP.o _).mono ?_
  rintro e w4 ⟨rfl,o4,rfl⟩
  go_wp2_with fail
  refine(dwo (H3.o.alloc o4).wx (x1,x2) l (by have:=NUM.o;show x1≤_;omega) (by have:=NUM.o;show x2≤_;omega) (by omega) (by have:=NUM.o;rw[List.length_append,hBl];show _+Y+_≤_;omega)).mono ?_
  rintro e w5 ⟨rfl,hx5,k5⟩
  have H5:=hide (De.write (H3.o.alloc o4) k5 hx5)
  have K5:=hide ((K3.o.alloc o4).trans (Kept.two k5))
  clear H3 K3 hx5 k5 HSP
  go_wp2_with fail
  refine(HLD.o _).mono ?_
  rintro e w6 ⟨rfl,b6⟩
  have H6:=hide ((H5.o.below b6).drew)
  have H6':=hide (H5.o.below b6)
  have K6:=hide ((Kept.thenBelow K5.o b6).drew)
  clear H5 K5 b6 HLD
  obtain⟨_,_,_,_,c6,hbw,hbl,_⟩:=H6'.o.cells
  obtain⟨q0,q1⟩:=H6'.o.code2 D X2 Y2 (by omega) HT2.o
  have HC:=hide (wco (w:=w6.drew) H6.o.wx (X2,Y2) (by have:=NUM.o;show X2<_;omega) (by have:=NUM.o;show Y2≤_;omega) (by have:=NUM.o;simp only[List.length_append,hBl,Fo.numBits_length];omega))
  unfold cV at HC
  go_wp2_with fail
  go_region_with (go_at_call 205;refine HC.o.mono ?_;rintro e w7 ⟨rfl,hx7,k7⟩)
  have H7:=hide (De.write H6.o k7 hx7)
  have K7:=hide (K6.o.trans (Kept.two k7))
  clear HC H6 H6' K6 c6 q0 q1 hx7 k7 hbw hbl
  go_wp2_with fail
  refine(HSD.o _).mono ?_
  rintro e w8 ⟨rfl,o8,rfl⟩
  go_wp2_with fail
  refine(dwo (H7.o.alloc o8).wx (y1,y2) d (by have:=NUM.o;show y1≤_;omega) (by have:=NUM.o;show y2≤_;omega) (by omega) (by have:=NUM.o;simp only[List.length_append,hBl,Fo.numBits_length];omega)).mono ?_
  rintro e w9 ⟨rfl,hx9,k9⟩
  have H9:=hide (De.write (H7.o.alloc o8) k9 hx9)
  have K9:=hide ((K7.o.alloc o8).trans (Kept.two k9))
  clear H7 K7 hx9 k9 HSD
  go_wp2_with fail
  refine(so_3 l H9.o m6).mono ?_
  rintro e w10 ⟨rfl,h10,k10⟩
  go_wp2
  go_end0
  refine⟨rfl,_,l,by omega,m6,?_,HEN.o,?_,fun ha=>Or.inr ?_,K9.o.trans k10⟩
  ·simpa only[List.append_assoc]using h10
  ·have:=NUM.o
   simp only[List.length_append,hBl,Fo.numBits_length];omega
  ·obtain⟨u1,u2⟩:=HAL.o ha (by omega) (by omega)
   obtain⟨_,v1,_,v2,_,v3,_,_,v4⟩:=NUM.o
   refine⟨u1,by omega,?_⟩
   have:=v4 u2
   simp only[List.length_append,hBl,Fo.numBits_length];omega
end
section
variable{w:World}{B bw bm g1 g2 cap T:Nat}{data:List Nat}{ao:Option Addr}{bs:List Bool}{at_:Nat}{rest:List Value}
theorem rb_(ao:Option Addr)(n c m a x1 x2 b y1 y2:Nat)(W:World):(Instr.build 194 #[(1,.slice ao n c),(3,.map (some m)),(4,.slice (some ⟨a,0,none⟩) x1 x2),(5,.slice (some ⟨b,0,none⟩) y1 y2)]).run Tryz.prog W=.ok (.agg #[.slice none 0 0,.int .i64 0,.slice ao n c,.int .i64 0,.map (some m),.slice (some ⟨a,0,none⟩) x1 x2,.slice (some ⟨b,0,none⟩) y1 y2]) W:=by kernel_rfl
theorem wpLb{P:Program}{w:World}{ops:Array Oper}{rest:List Oper}{o:Oper}{a:Act}{Q:Exit→Act→World→Prop}(hgd:o.guard=none)(t i j k l:Nat)(x y z u:Operand)(ho:o.op=.build t #[(i,x),(j,y),(k,z),(l,u)])
  (vx vy vz vu v:Value) (hx:a.eval x=vx) (hy:a.eval y=vy) (hz:a.eval z=vz) (hu:a.eval u=vu) (hrun:∀ W,(Instr.build t #[(i,vx),(j,vy),(k,vz),(l,vu)]).run P W=.ok v W) (h:wpList P ops Q rest (a.put o.dst v) w):wpList P ops Q (o::rest) a w:=by
 refine wpList_plain hgd fun K hK=>?_
 unfold Oper.wp
 simp[execOp,ho,hx,hy,hz,hu,hrun,Result.andThen]
 exact hK _ _ h
theorem IntRow.below{g:Nat}{l:List Nat}{w':World}(h:IntRow w g l)(k:Below w.heap.size w w'):IntRow w' g l:=by
 obtain⟨c,fz,hb,hc⟩:=h
 exact⟨c,fz,by rw[k.block _ (lt_of_block hb)];exact hb,hc⟩
theorem IntRow.setCells{g b o:Nat}{l:List Nat}{vs:List Value}(h:IntRow w g l)(hne:g≠b):IntRow (w.setCells b o vs) g l:=by
 obtain⟨c,fz,hb,hc⟩:=h
 exact⟨c,fz,by rw[sCn _ hne];exact hb,hc⟩
theorem fiCo(g1 g2:Nat):(fC g1 g2).toArray.all (·.oneCell')=true:=by
 unfold fC ints
 simp[Value.oneCell']
theorem nDo(hd:Dat w B ao data)(hB:B≤w.heap.size)(byt:∀ i,i<data.length→nth data i<256)(len:data.length≤1000000)(lc:data.length≤cap∧cap≤9223372036854775807) :
  Calls Tryz.prog 202 #[.slice ao data.length cap] w fun e w'=>∃ bw bm g1 g2,e=.returned (.pointer (some ⟨bw,0,none⟩))∧De w.heap.size bw bm g1 g2 cap data ao w' [] 0∧Below w.heap.size w w':=by
 have hmm:=@run_makeMap Tryz.prog
 have HD:=hide hd
 have BYT:=hide byt
 clear hd byt
 go_enter Tryz.func202,Tryz.ntmps202
 go_wp2_with fail
 refine fCo.mono ?_
 rintro e w1 ⟨q1,q2,rfl,i1,i2,b1,n1,n2⟩
 have hone:=fiCo q1 q2
 have hlen:=fCl q1 q2
 generalize hF:fC q1 q2=F at *
 have HF:=hide hF
 clear hF
 have hszA:F.toArray.size=34:=List.size_toArray.trans hlen
 have hi34:Hid ((Tryz.prog.info? 164).map (·.size)=some F.toArray.size):=by unfold Hid;rw[hszA];kernel_rfl
 have ht34:Hid ((w1.alloc zero34).there w1.heap.size 0 F.toArray.size):=by unfold Hid;rw[hszA];exact there34 (bln _ _)
 have HW2:Hid (∃ W2,(w1.alloc zero34).setCells w1.heap.size 0 F=W2):=⟨_,rfl⟩
 have l1:q1<w1.heap.size:=by obtain⟨c,fz,hb,_⟩:=i1;exact lt_of_block hb
 have l2:q2<w1.heap.size:=by obtain⟨c,fz,hb,_⟩:=i2;exact lt_of_block hb
 have HC2:Hid (CdF ((w1.alloc zero34).setCells w1.heap.size 0 F) w1.heap.size∧CdD ((w1.alloc zero34).setCells w1.heap.size 0 F) w1.heap.size):=by
  rw[←HF.o]at hlen ⊢
  have ba:Below w1.heap.size w1 (w1.alloc zero34):=(Below.refl _ _).alloc (Nat.le_refl _) _
  exact fc_ (sCw (bln w1 zero34) (by rw[hlen];rfl)) ((i1.below ba).setCells (by omega)) ((i2.below ba).setCells (by omega))
 have HB2:Hid (Below w.heap.size w ((w1.alloc zero34).setCells w1.heap.size 0 F)):=sCb _ _ b1.size _ _ _ _ (b1.alloc b1.size _)
 clear i1 i2 b1 l1 l2 HF hlen hszA
 go_wp2_with (refine wpList_store_mid (by rfl) 164 (.tmp 3) (.tmp 4) (by rfl) w1.heap.size 0 F.toArray (by rfl) (by rfl) ht34.o hi34.o hone ?_)
 generalize hW2:World.setCells (w1.alloc _) w1.heap.size 0 F=W2
 have HCF:Hid (CdF W2 w1.heap.size∧CdD W2 w1.heap.size):=by rw[←hW2];exact HC2.o
 have HBW:Hid (Below w.heap.size w W2):=by rw[←hW2];exact HB2.o
 clear hW2 HC2 HB2 HW2 ht34 hi34 hone
 have ba:Below W2.heap.size W2 (W2.alloc (.map #[] 0)):=(Below.refl _ _).alloc (Nat.le_refl _) _
 have hmap:(W2.alloc (.map #[] 0)).heap[W2.heap.size]?=some (.map #[] 0):=bln _ _
 have HCA:=hide (HCF.o.1.below ba)
 have HCB:=hide (HCF.o.2.below ba)
 have HBA:=hide (HBW.o.trans (ba.mono HBW.o.size))
 have hlt2:W2.heap.size<(W2.alloc (.map #[] 0)).heap.size:=by simp
 have hle2:=HBW.o.size
 generalize hW3:W2.alloc (.map #[] 0)=W3 at *
 generalize hbm:W2.heap.size=m at *
 clear hW3 hbm ba HCF HBW
 refine(bySymF _ HCA.o).mono ?_
 rintro e w3 ⟨rfl,r1,b3⟩
 have HCB3:=hide (HCB.o.below b3)
 have HB3:=hide (HBA.o.trans (b3.mono HBA.o.size))
 have hs3:=b3.size
 have hmap3:w3.heap[m]?=some (.map #[] 0):=by rw[b3.block _ hlt2];exact hmap
 have hA:=HBA.o.size
 clear HCA HCB HBA b3 hmap
 have R1:=hide r1
 clear r1
 have lr1:W3.heap.size<w3.heap.size:=by obtain⟨C,hb,_⟩:=R1.o;exact lt_of_block hb
 go_wp2_with fail
 refine(bySymD _ HCB3.o).mono ?_
 rintro e w4 ⟨rfl,r2,b4⟩
 have R2:=hide r2
 have HB4:=hide (HB3.o.trans (b4.mono HB3.o.size))
 have R14:=hide (R1.o.below' b4)
 have hmap4:=hide (show w4.heap[m]?=some (.map #[] 0)by rw[b4.block _ (by omega)];exact hmap3)
 have hs4:=b4.size
 clear r2 b4 R1 HB3 hmap3 HCB3
 generalize W3.heap.size=gg1 at *
 generalize hgg2:w3.heap.size=gg2 at *
 clear hgg2
 have hbuild:=hide (rb_ ao data.length cap m gg1 288 288 gg2 32 32)
 have tokb:True:=trivial
 go_wp2_with (have _t:=tokb;refine wpLb (by rfl) 194 1 3 4 5 (.tmp 5) (.tmp 6) (.tmp 8) (.tmp 10) (by rfl) _ _ _ _ _ (by rfl) (by rfl) (by rfl) (by rfl) hbuild.o ?_;clear tokb)
 go_ret
 have ba:Below w4.heap.size w4 (w4.alloc (.cells #[.slice none 0 0,.int .i64 0,.slice ao data.length cap,.int .i64 0,.map (some m),.slice (some ⟨gg1,0,none⟩) 288 288,.slice (some ⟨gg2,0,none⟩) 32 32] 194)):=(Below.refl _ _).alloc (Nat.le_refl _) _
 refine⟨w4.heap.size,m,gg1,gg2,rfl,?_,HB4.o.trans (ba.mono HB4.o.size)⟩
 have hss:=HB4.o.size
 refine⟨⟨.slice none 0 0,[],0,⟨hss,by decide,bln _ _,World.ownsRow_nil _ _ _ _⟩,Fo.BW.nil⟩,?_,BYT.o,len,lc,Nat.zero_le _,?_,R14.o.below' ba,R2.o.below' ba,hle2⟩
 ·intro i hi
  obtain⟨b,o,e1,e2,e3⟩:=HD.o i hi
  exact⟨b,o,e1,by omega,((HB4.o.trans (ba.mono HB4.o.size)).cell (p:=⟨b,o+i,none⟩) (by show b<_;omega)).trans e3⟩
 ·exact⟨#[],0,bla _ hmap4.o,by simp,fun _=>⟨by simp,fun p hp _=>absurd hp (by omega)⟩⟩
def atOf(bw:Nat)(w:World):Nat:=(intOf ((w.cell? ⟨bw,3,none⟩).getD undef)).toNat
theorem De.atOf(h:De B bw bm g1 g2 cap data ao w bs at_):atOf bw w=at_:=by unfold Go.Proofs.YtgkljcmjnphpeaaGreatDoor.atOf;rw[h.cells.2.1];simp[intOf]
def fB(eb:List Bool):List Bool:=true::(Fo.numBits 2 1++(eb++Fo.codeBits Fo.tabF 256))
theorem code256:tnth Fo.tabF 256=(0,7):=by decide +kernel
theorem fBe(eb:List Bool):(Fo.numBits 1 1++Fo.numBits 2 1++eb)++Fo.highBits 0 7=fB eb:=by
 unfold fB
 rw[cBe,code256,List.append_assoc,List.append_assoc];rfl
def mB(n a:Nat):Nat:=19*((n-a+257)/258)+9*min 2 (n-a)+(if a=0 then 9 else 0)
theorem mBl{n a k:Nat}(hk:k≤9)(ha:a<n)(h:a=0∨n<a+3):k+mB n (a+1)≤mB n a:=by
 unfold mB
 rw[if_neg (show ¬ a+1=0 by omega)]
 rcases h with rfl | h
 ·simp only[if_true]
  have:(n-(0+1)+257)/258≤(n-0+257)/258:=Nat.div_le_div_right (by omega)
  omega
 ·have:(n-(a+1)+257)/258≤(n-a+257)/258:=Nat.div_le_div_right (by omega)
  omega
theorem mBc{n a k:Nat}(hk:k≤19)(ha:a<n)(h0:0<a):k+mB n (a+min 258 (n-a))≤mB n a:=by
 unfold mB
 rw[if_neg (show ¬ a=0 by omega),if_neg (show ¬ a+min 258 (n-a)=0 by omega)]
 rcases Nat.lt_or_ge (n-a) 258 with h | h
 ·rw[Nat.min_eq_right (by omega),show n-(a+(n-a))=0 by omega]
  omega
 ·rw[Nat.min_eq_left h]
  omega
theorem dco(hd:Dat w B ao data)(hB:B≤w.heap.size)(byt:∀ i,i<data.length→nth data i<256)(len:data.length≤1000000)(lc:data.length≤cap∧cap≤9223372036854775807) :
  Calls Tryz.prog 147 #[.slice ao data.length cap] w fun e w'=>∃(ov:Value) (out:List Nat) (used:Nat) (eb:List Bool),e=.returned ov∧w'.ownsRow w.heap.size 5 1 ov out.length (out.map fun x:Nat=>.int .u8 (x:Int))∧Below w.heap.size w w'∧Fo.BW out used (fB eb)∧Fo.Enc data data.length eb∧eb.length≤40*data.length∧(Alike data→eb.length≤27+19*((data.length+257)/258)):=by
 have HN:=hide (nDo hd hB byt len lc)
 clear hd byt
 go_enter Tryz.func147,Tryz.ntmps147
 go_wp2_with fail
 refine HN.o.mono ?_
 rintro e w1 ⟨bw,bm,g1,g2,rfl,h1,b1⟩
 have H1:=hide h1
 have B1:=hide b1
 clear h1 b1 HN
 go_wp2_with fail
 refine(wbo H1.o.wx 1 1 (by omega) (by omega) (by simp)).mono ?_
 rintro e w2 ⟨rfl,hx2,k2⟩
 have H2:=hide (De.write H1.o k2 hx2)
 have K2:=hide k2
 clear H1 hx2 k2
 go_wp2_with fail
 refine(wbo H2.o.wx 1 2 (by omega) (by omega) (by simp[Fo.numBits_length])).mono ?_
 rintro e w3 ⟨rfl,hx3,k3⟩
 have H3:=hide (De.write H2.o k3 hx3)
 have K3:=hide (show Kept 5 w.heap.size [bw,bm] w1 w3 from Kept.two (K2.o.trans k3))
 have hs1:=B1.o.size
 have hbwbm:w.heap.size≤bw∧w.heap.size≤bm:=⟨H2.o.cells.2.2.2.2.2.1,H2.o.hbm⟩
 clear H2 hx3 k3 K2
 go_wp2
 go_loopw [14] (fun _ wr=>∃(a:Nat) (eb:List Bool),De w.heap.size bw bm g1 g2 cap data ao wr (Fo.numBits 1 1++Fo.numBits 2 1++eb) a∧Hid (Fo.Enc data a eb∧eb.length≤40*a∧(Alike data→eb.length+mB data.length a≤mB data.length 0))∧Kept 5 w.heap.size [bw,bm] w1 wr) (fun _ wr=>data.length-atOf bw wr)
 case atStart=>exact⟨0,[],by simpa using H3.o,hide ⟨.nil,by simp,fun _=>by simp⟩,K3.o⟩
 case round =>
  obtain⟨a,eb,hf,HE,kk⟩:=hrel
  have HF:=hide hf
  have KK:=hide kk
  have hm:=hide hf.atOf
  have hle:=hf.hat
  obtain⟨_,c3,_,c5,_,_,hbl,_⟩:=hf.cells
  clear hf kk
  have hebl:=HE.o.2.1
  by_cases hlt:a<data.length
  ·have hlt':(a:Int)<data.length:=by omega
   go_wp2_with fail
   refine(dpo HF.o hlt (by simp only[List.length_append,Fo.numBits_length];omega)).mono ?_
   rintro e w4 ⟨rfl,p,n,hn,hal,h4,henc,hpl,hali,k4⟩
   have HALI:=hide hali
   clear hali
   have hm4:=hide h4.atOf
   go_wp2
   go_roundw
   case rel=>exact⟨a+n,eb++p,by simpa only[List.append_assoc]using h4,hide ⟨henc _ HE.o.1,by rw[List.length_append];omega,fun ha=>by
    have h0:=HE.o.2.2 ha
    rw[List.length_append]
    rcases HALI.o ha with⟨rfl,hp9,hor⟩ | ⟨rfl,hpos,hp9⟩
    ·have:=mBl hp9 hlt hor
     omega
    ·have:=mBc hp9 hlt hpos
     omega⟩,KK.o.trans k4⟩
   case measure=>rw[hm.o,hm4.o];omega
  ·obtain rfl:a=data.length:=by omega
   obtain⟨q0,q1⟩:=HF.o.code1 256 0 7 (by omega) code256
   have HFd:=hide HF.o.drew
   have HC:=hide (wco (w:=wr.drew) HFd.o.wx (0,7) (by show 0<_;omega) (by show 7≤_;omega) (by simp only[List.length_append,Fo.numBits_length];omega))
   unfold cV at HC
   simp only[]at HC
   rw[fBe]at HC
   go_wp2_with fail
   go_region_with (go_at_call 205;refine HC.o.mono ?_;rintro e w4 ⟨rfl,hx4,k4⟩)
   all_goals (
    obtain⟨ov,out,used,hq,hb⟩:=hx4
    have c0:=hq.c0
    go_wp2
    go_ret
    exact⟨ov,out,used,eb,rfl,hq.own,B1.o.trans (((KK.o.drew).trans (Kept.two k4)).below hs1 (by simp;omega)),hb,HE.o.1,HE.o.2.1,fun ha=>by
     have h0:eb.length≤mB data.length 0:=by have:=HE.o.2.2 ha;omega
     unfold mB at h0
     rw[if_pos rfl]at h0
     omega⟩)
end
section
variable{B br bf bd off cap:Nat}{d:List Nat}{most:Nat}{w:World}
theorem Rd.start(hbd:bd<w.heap.size)(hd:∀ i,i<d.length→w.cell? ⟨bd,off+i,none⟩=some (.int .u8 (nth d i:Nat)))(hb:∀ i,i<d.length→nth d i<256)(hc:d.length≤cap)(hl:cap≤9223372036854775807)(hm:most≤1000000) :
  Rd w.heap.size w.heap.size bd off cap d most (w.alloc (.cells #[.slice (some ⟨bd,off,none⟩) d.length cap,.int .i64 0,.slice none 0 0,.int .i64 most] 141 (0,0))) 0 (.slice none 0 0) []:=
 ⟨hbd,Nat.le_refl _,bln _ _,fun i hi=>by rw[World.cell?_alloc_lt _ _ _ hbd];exact hd i hi,World.ownsRow_nil _ _ _ _,hb,hc,hl,hm,Nat.zero_le _,Nat.zero_le _⟩
theorem kBN{e:Nat}{w w':World}{o:Obj}(k:Kept e w.heap.size [w.heap.size] (w.alloc o) w'):Below w.heap.size w w' :=
 ((Below.refl _ _).alloc (Nat.le_refl _) o).trans (k.below (by simp) (by simp))
end
section
variable{w:World}
theorem ob_{w:World}{B B' e n size:Nat}{v:Value}{xs:List Value}(h:w.ownsRow B e size v n xs)(hb:B'≤B):w.ownsRow B' e size v n xs:=by
 obtain⟨h1,h2⟩:=h
 refine⟨h1,?_⟩
 rcases h2 with h2 | ⟨g,cap,cur,hv,hg,r⟩
 ·exact Or.inl h2
 ·exact Or.inr ⟨g,cap,cur,hv,by omega,r⟩
theorem of0{w:World}{B e n size k:Nat}{v:Value}{xs:List Value}(h:w.ownsRow B e size v n xs)(hk:k<B):v.ownBlock≠some k:=by
 intro he;have:=(h.lt k he).1;omega
theorem ci(p q:Addr)(w:World) :
  CallsD Tryz.prog 79 #[.pointer (some p),.pointer (some q)] .returning w fun e u' w'=>e=.returned (.tuple #[])∧u'=.returning∧w'=w:=by
 refine callsD_of_wpS Tryz.func79 rfl fun c₀ cs hu=>?_
 apply wpS_seq
 apply wpS_region
 simp[wpOpsS,go_sem,recoverD,hu,Tryz.ntmps79,Exit.thenS,Array.replicate]
 refine wpS_of_wp ?_
 go_wp2
 cases c₀
 simp_all [bodyPostS,results,Tryz.results79]
theorem der(f:Nat)(hf:1≤f∧f≤4)(bd off cap:Nat)(d:List Nat)(most:Nat)(hm:most≤1000000)(hd:d.length≤200000)(l:List Nat)
  (hc:∀ W:World,Below w.heap.size w W→w.heap.size≤W.heap.size→Calls Tryz.prog 80 #[.int .i64 f,.slice (some ⟨bd,off,none⟩) d.length cap,.int .i64 most] W fun e w'=>∃ v,e=.returned v∧w'.ownsRow W.heap.size 5 1 v l.length (l.map fun x:Nat=>.int .u8 (x:Int))∧Below W.heap.size W w') :
  Calls Tryz.prog 39 #[.int .i64 f,.slice (some ⟨bd,off,none⟩) d.length cap,.int .i64 most] w fun e w'=>∃ v,e=.returned (.tuple #[v,.int .i64 0])∧w'.ownsRow w.heap.size 5 1 v l.length (l.map fun x:Nat=>.int .u8 (x:Int))∧Below w.heap.size w w':=by
 have hmf:∀(fn:Fn) (first cap:Array Value) (w:World),(Instr.makeFunc fn first cap).run Tryz.prog w=.ok (.func fn first cap) w:=fun _ _ _ _=>rfl
 have HC:=hide hc
 clear hc
 go_enter_defers Tryz.func39,Tryz.ntmps39
 go_wp2_with (go_at_call 63;refine(wiy _ _ _ _ (by omega) (by omega)).mono ?_;rintro e w' ⟨rfl,rfl⟩)
 refine(HC.o _ (((Below.refl _ _).alloc (Nat.le_refl _) _).alloc (by simp) _) (by simp;omega)).mono ?_
 rintro e w1 ⟨v,rfl,hown,hb⟩
 obtain⟨ao,oc,rfl⟩:=ows hown
 have c1:w1.cell? ⟨w.heap.size,0,none⟩=some (.slice none 0 0):=by
  rw[hb.cell (p:=⟨w.heap.size,0,none⟩) (by simp;omega),World.cell?_alloc_lt _ _ _ (by simp),World.cell?_alloc_new];rfl
 have c2:w1.cell? ⟨w.heap.size+1,0,none⟩=some (.int .i64 0):=by
  rw[hb.cell (p:=⟨w.heap.size+1,0,none⟩) (by simp)]
  simp
 have f1:w1.frozen? ⟨w.heap.size,0,none⟩=false:=by
  rw[hb.frozen (p:=⟨w.heap.size,0,none⟩) (by simp;omega),World.frozen?_alloc_old _ _ _ (by simp),World.frozen?_alloc_new]
 have f2:w1.frozen? ⟨w.heap.size+1,0,none⟩=false:=by
  rw[hb.frozen (p:=⟨w.heap.size+1,0,none⟩) (by simp)]
  simp
 go_wp2
 refine leaves_cons (f:= 79) (args:=#[.pointer (some ⟨w.heap.size,0,none⟩),.pointer (some ⟨w.heap.size+1,0,none⟩)]) (by simp) (by simp[go_sem]) ?_
 refine(ci ⟨w.heap.size,0,none⟩ ⟨w.heap.size+1,0,none⟩ _).mono ?_
 rintro e u' w'' ⟨rfl,rfl,rfl⟩
 simp[Leaves,settle,results,Tryz.results39,go_sem,c1,c2,f1,f2]
 simp only[World.size_alloc]at hown hb
 refine⟨ob_ (ownsRow_setCell_other (ownsRow_setCell_other hown (of0 hown (by simp;omega)) _) (of0 hown (by simp)) _) (by omega),?_⟩
 exact(((((Below.refl _ _).alloc (Nat.le_refl _) _).alloc (by simp) _).trans (hb.mono (by omega))).setCell (by simp) _).setCell (by simp) _
end
end Go.Proofs.YtgkljcmjnphpeaaGreatDoor
