import Derived.Test.YtgkljcmjnphpeaaGreatDoorK28
set_option linter.unusedVariables false
set_option linter.unusedSimpArgs false
set_option maxHeartbeats 2000000
set_option maxRecDepth 100000
namespace Go.Proofs.YtgkljcmjnphpeaaGreatDoor
open Go.RowKit
section
variable{w:World}
def a85V:List Nat→Nat→Nat
 | [],n=>n
 |d::ds,n=>a85V ds (n*85+(d-33))
def aO(V:Nat):List Nat:=[V/16777216,V/65536%256,V/256%256,V%256]
theorem wuy(n a b:Int)(w:World)(h1:a≤n)(h2:n≤b):Calls Tryz.prog 277 #[.int .u64 n,.int .u64 a,.int .u64 b] w fun e w'=>e=.returned (.bool true)∧w'=w:=by
 go_enter Tryz.func277,Tryz.ntmps277
 go_wp2
 go_ret
 exact⟨rfl,rfl⟩
theorem ri0(a0 a1 a2 a3 a4:Nat)(W:World):(Instr.index 184 (.agg #[.int .u8 (a0:Nat),.int .u8 (a1:Nat),.int .u8 (a2:Nat),.int .u8 (a3:Nat),.int .u8 (a4:Nat)]) (.int .i64 0)).run Tryz.prog W=.ok (.int .u8 (a0:Nat)) W:=by kernel_rfl
theorem ri1(a0 a1 a2 a3 a4:Nat)(W:World):(Instr.index 184 (.agg #[.int .u8 (a0:Nat),.int .u8 (a1:Nat),.int .u8 (a2:Nat),.int .u8 (a3:Nat),.int .u8 (a4:Nat)]) (.int .i64 1)).run Tryz.prog W=.ok (.int .u8 (a1:Nat)) W:=by kernel_rfl
theorem ri2(a0 a1 a2 a3 a4:Nat)(W:World):(Instr.index 184 (.agg #[.int .u8 (a0:Nat),.int .u8 (a1:Nat),.int .u8 (a2:Nat),.int .u8 (a3:Nat),.int .u8 (a4:Nat)]) (.int .i64 2)).run Tryz.prog W=.ok (.int .u8 (a2:Nat)) W:=by kernel_rfl
theorem ri3(a0 a1 a2 a3 a4:Nat)(W:World):(Instr.index 184 (.agg #[.int .u8 (a0:Nat),.int .u8 (a1:Nat),.int .u8 (a2:Nat),.int .u8 (a3:Nat),.int .u8 (a4:Nat)]) (.int .i64 3)).run Tryz.prog W=.ok (.int .u8 (a3:Nat)) W:=by kernel_rfl
theorem ri4(a0 a1 a2 a3 a4:Nat)(W:World):(Instr.index 184 (.agg #[.int .u8 (a0:Nat),.int .u8 (a1:Nat),.int .u8 (a2:Nat),.int .u8 (a3:Nat),.int .u8 (a4:Nat)]) (.int .i64 4)).run Tryz.prog W=.ok (.int .u8 (a4:Nat)) W:=by kernel_rfl
def pv(P1 P2 P3 P4 V:Nat):Nat→Nat
 |0=>0
 |1=>P1
 |2=>P2
 |3=>P3
 |4=>P4
 |_=>V
theorem aBo(g0 g1 g2 g3 g4:Nat)(h0:33≤g0∧g0≤117)(h1:33≤g1∧g1≤117)(h2:33≤g2∧g2≤117)(h3:33≤g3∧g3≤117)(h4:33≤g4∧g4≤117)(V:Nat)(hV:a85V [g0,g1,g2,g3,g4] 0=V)(hm:V≤4294967295)(w:World) :
  Calls Tryz.prog 217 #[.agg #[.int .u8 g0,.int .u8 g1,.int .u8 g2,.int .u8 g3,.int .u8 g4]] w fun e w'=>e=.returned (.agg ((aO V).map fun x:Nat=>Value.int .u8 (x:Int)).toArray)∧Below w.heap.size w w':=by
 obtain⟨P1,e1⟩:∃ P1,P1=g0-33:=⟨_,rfl⟩
 obtain⟨P2,e2⟩:∃ P2,P2=P1*85+(g1-33):=⟨_,rfl⟩
 obtain⟨P3,e3⟩:∃ P3,P3=P2*85+(g2-33):=⟨_,rfl⟩
 obtain⟨P4,e4⟩:∃ P4,P4=P3*85+(g3-33):=⟨_,rfl⟩
 have e5:V=P4*85+(g4-33):=by
  rw[e4,e3,e2,e1,←hV]
  show((((0*85+(g0-33))*85+(g1-33))*85+(g2-33))*85+(g3-33))*85+(g4-33)=_
  rw[Nat.zero_mul,Nat.zero_add]
 have b1:P1≤84:=by omega
 have b2:P2≤7224:=by omega
 have b3:P3≤614124:=by omega
 have b4:P4≤52200624:=by omega
 have E:=hide (And.intro e1 (And.intro e2 (And.intro e3 (And.intro e4 e5))))
 clear hV e1 e2 e3 e4 e5
 go_enter Tryz.func217,Tryz.ntmps217
 go_wp2
 generalize hW:World.alloc (World.alloc w _) _=W
 have hbW:Below w.heap.size w W:=by rw[←hW];exact(((Below.refl _ _).alloc (Nat.le_refl _) _).alloc (by simp) _)
 have hblk:W.heap[w.heap.size+1]?=some (.cells #[.int .u8 0,.int .u8 0,.int .u8 0,.int .u8 0] 153 (0,0)):=by
  rw[←hW]
  have:=bln (w.alloc (.cells #[.int .u8 g0,.int .u8 g1,.int .u8 g2,.int .u8 g3,.int .u8 g4] 184)) (.cells #[.int .u8 0,.int .u8 0,.int .u8 0,.int .u8 0] 153 (0,0))
  simpa using this
 have HBW:=hide hbW
 have HBK:=hide hblk
 clear hW hbW hblk
 go_loopw [3,7] (fun n i wr=>∃ k:Nat,k≤5∧i=.int .i64 k∧n=.int .u64 (pv P1 P2 P3 P4 V k:Nat)∧wr=W) (fun _ i _=>5-(intOf i).toNat)
 case atStart=>exact⟨0,by omega,rfl,rfl,rfl⟩
 case round =>
  obtain⟨k,hk,rfl,rfl,rfl⟩:=hrel
  obtain rfl | rfl | rfl | rfl | rfl | rfl:k=0∨k=1∨k=2∨k=3∨k=4∨k=5:=by omega
  ·have hix:=ri0 g0 g1 g2 g3 g4
   simp only[pv]
   go_wp2
   go_roundw
   case rel =>
    refine⟨1,by omega,rfl,?_,trivial⟩
    show Value.int .u64 _=Value.int .u64 (P1:Nat)
    congr 1
    have:=E.o
    omega
   case measure=>simp[intOf]
  ·have hix:=ri1 g0 g1 g2 g3 g4
   simp only[pv]
   go_wp2
   go_roundw
   case rel =>
    refine⟨2,by omega,rfl,?_,trivial⟩
    show Value.int .u64 _=Value.int .u64 (P2:Nat)
    congr 1
    have:=E.o
    omega
   case measure=>simp[intOf]
  ·have hix:=ri2 g0 g1 g2 g3 g4
   simp only[pv]
   go_wp2
   go_roundw
   case rel =>
    refine⟨3,by omega,rfl,?_,trivial⟩
    show Value.int .u64 _=Value.int .u64 (P3:Nat)
    congr 1
    have:=E.o
    omega
   case measure=>simp[intOf]
  ·have hix:=ri3 g0 g1 g2 g3 g4
   simp only[pv]
   go_wp2
   go_roundw
   case rel =>
    refine⟨4,by omega,rfl,?_,trivial⟩
    show Value.int .u64 _=Value.int .u64 (P4:Nat)
    congr 1
    have:=E.o
    omega
   case measure=>simp[intOf]
  ·have hix:=ri4 g0 g1 g2 g3 g4
   simp only[pv]
   go_wp2
   go_roundw
   case rel =>
    refine⟨5,by omega,rfl,?_,trivial⟩
    show Value.int .u64 _=Value.int .u64 (V:Nat)
    congr 1
    have:=E.o
    omega
   case measure=>simp[intOf]
  ·simp only[pv]
   have n0:wr.cell? ⟨w.heap.size+1,0,none⟩=some (.int .u8 0):=ceb HBK.o
   have n1:wr.cell? ⟨w.heap.size+1,1,none⟩=some (.int .u8 0):=ceb HBK.o
   have n2:wr.cell? ⟨w.heap.size+1,2,none⟩=some (.int .u8 0):=ceb HBK.o
   have n3:wr.cell? ⟨w.heap.size+1,3,none⟩=some (.int .u8 0):=ceb HBK.o
   have f0:wr.frozen? ⟨w.heap.size+1,0,none⟩=false:=frb HBK.o
   have f1:wr.frozen? ⟨w.heap.size+1,1,none⟩=false:=frb HBK.o
   have f2:wr.frozen? ⟨w.heap.size+1,2,none⟩=false:=frb HBK.o
   have f3:wr.frozen? ⟨w.heap.size+1,3,none⟩=false:=frb HBK.o
   have hfin:Hid (((((wr.setCell ⟨w.heap.size+1,0,none⟩ (.int .u8 (V/16777216:Nat))).setCell ⟨w.heap.size+1,1,none⟩ (.int .u8 (V/65536%256:Nat))).setCell ⟨w.heap.size+1,2,none⟩ (.int .u8 (V/256%256:Nat))).setCell ⟨w.heap.size+1,3,none⟩ (.int .u8 (V%256:Nat))).heap[w.heap.size+1]?=some (.cells ((aO V).map fun x:Nat=>Value.int .u8 (x:Int)).toArray 153 (0,0))):=by
    unfold Hid
    exact bsC _ (bsC _ (bsC _ (bsC _ HBK.o)))
   have hbel:Hid (Below w.heap.size w ((((wr.setCell ⟨w.heap.size+1,0,none⟩ (.int .u8 (V/16777216:Nat))).setCell ⟨w.heap.size+1,1,none⟩ (.int .u8 (V/65536%256:Nat))).setCell ⟨w.heap.size+1,2,none⟩ (.int .u8 (V/256%256:Nat))).setCell ⟨w.heap.size+1,3,none⟩ (.int .u8 (V%256:Nat)))):=
    hide ((((HBW.o.setCell (p:=⟨w.heap.size+1,0,none⟩) (by simp) _).setCell (p:=⟨w.heap.size+1,1,none⟩) (by simp) _).setCell (p:=⟨w.heap.size+1,2,none⟩) (by simp) _).setCell (p:=⟨w.heap.size+1,3,none⟩) (by simp) _)
   have x0:Hid ((V:Int)/16777216=(V/16777216:Nat)):=hide rfl
   go_wp2_with (first | (go_at_call 277;refine(wuy _ _ _ _ (by omega) (by omega)).mono ?_;rintro e w' ⟨rfl,rfl⟩) | (go_at_call 163;refine(muy _).mono ?_;rintro e w' ⟨rfl,rfl⟩))
   refine bodyPost_ret (v:=.agg ((aO V).map fun x:Nat=>Value.int .u8 (x:Int)).toArray) ?_ rfl ⟨rfl,hbel.o⟩
   exact results_cell_row Tryz.results217 _ _ (w.heap.size+1) 153 _ _ _ rfl hfin.o Tryz.underlying153 rfl (by kernel_rfl)
end
section
variable{B br bd off cap:Nat}{d:List Nat}{most:Nat}{w:World}{p:Nat}{ov:Value}{out:List Nat}
def bV(l:List Nat):List Value:=l.map fun x:Nat=>Value.int .u8 (x:Int)
def fill5(ds:List Nat):Nat→Nat→List Nat
 |0,_=>ds
 |f+1,k=>fill5 (ds.set k 117) f (k+1)
theorem fie(g0 g1 g2 g3 g4 n:Nat)(hn:2≤n)(hn2:n≤4):fill5 [g0,g1,g2,g3,g4] (5-n) n=[g0,g1,if n≤2 then 117 else g2,if n≤3 then 117 else g3,117]:=by
 obtain rfl | rfl | rfl:n=2∨n=3∨n=4:=by omega
 ·rfl
 ·rfl
 ·rfl
theorem bVs(l:List Nat)(k x:Nat):((bV l).toArray.setIfInBounds k (.int .u8 (x:Int)))=(bV (l.set k x)).toArray:=by
 unfold bV
 rw[List.map_set];simp
theorem rs1(b:Nat)(W:World):(Instr.sliceAt 153 (.pointer (some ⟨b,0,none⟩)) none (some (.int .i64 1)) none).run Tryz.prog W=.ok (.slice (some ⟨b,0,none⟩) 1 4) W:=by kernel_rfl
theorem rs2(b:Nat)(W:World):(Instr.sliceAt 153 (.pointer (some ⟨b,0,none⟩)) none (some (.int .i64 2)) none).run Tryz.prog W=.ok (.slice (some ⟨b,0,none⟩) 2 4) W:=by kernel_rfl
theorem rs3(b:Nat)(W:World):(Instr.sliceAt 153 (.pointer (some ⟨b,0,none⟩)) none (some (.int .i64 3)) none).run Tryz.prog W=.ok (.slice (some ⟨b,0,none⟩) 3 4) W:=by kernel_rfl
theorem rs(b n:Nat)(hn:2≤n)(hn2:n≤4)(W:World):(Instr.sliceAt 153 (.pointer (some ⟨b,0,none⟩)) none (some (.int .i64 ((n:Int)-1))) none).run Tryz.prog W=.ok (.slice (some ⟨b,0,none⟩) (n-1) 4) W:=by
 obtain rfl | rfl | rfl:n=2∨n=3∨n=4:=by omega
 ·exact rs1 b W
 ·exact rs2 b W
 ·exact rs3 b W
theorem pSo(h:Rd B br bd off cap d most w p ov out)(g0 g1 g2 g3 g4 n:Nat)(hn:2≤n)(hn2:n≤4)(h0:33≤g0∧g0≤117)(h1:33≤g1∧g1≤117)(h2:33≤(if n≤2 then 117 else g2)∧(if n≤2 then 117 else g2)≤117)(h3:33≤(if n≤3 then 117 else g3)∧(if n≤3 then 117 else g3)≤117)
  (V:Nat) (hV:a85V [g0,g1,if n≤2 then 117 else g2,if n≤3 then 117 else g3,117] 0=V) (hm:V≤4294967295) (ho:out.length+(n-1)≤most) :
  Calls Tryz.prog 215 #[.pointer (some ⟨br,0,none⟩),.agg (bV [g0,g1,g2,g3,g4]).toArray,.int .i64 n] w fun e w'=>e=.returned (.tuple #[])∧∃ ov',Rd B br bd off cap d most w' p ov' (out++(aO V).take (n-1))∧Kept 5 B [br] w w':=by
 have HF:=hide (fie g0 g1 g2 g3 g4 n hn hn2)
 have HB:Hid (∀ W:World,Calls Tryz.prog 217 #[.agg (bV [g0,g1,if n≤2 then 117 else g2,if n≤3 then 117 else g3,117]).toArray] W fun e w'=>e=.returned (.agg #[.int .u8 (V/16777216:Nat),.int .u8 (V/65536%256:Nat),.int .u8 (V/256%256:Nat),.int .u8 (V%256:Nat)])∧Below W.heap.size W w'):=fun W=>aBo g0 g1 _ _ 117 h0 h1 h2 h3 (by omega) V hV hm W
 clear h0 h1 h2 h3 hV
 generalize hR:[g0,g1,if n≤2 then 117 else g2,if n≤3 then 117 else g3,117]=R at *
 have hR5:R.length=5:=by rw[←hR];rfl
 have HR:=hide hR
 have hbox:(w.alloc (.cells (bV [g0,g1,g2,g3,g4]).toArray 184)).heap[w.heap.size]?=some (.cells (bV [g0,g1,g2,g3,g4]).toArray 184 (0,0)):=bln _ _
 have h5:[g0,g1,g2,g3,g4].length=5:=rfl
 generalize [g0,g1,g2,g3,g4]=D at *
 clear hR
 have hne0:((n:Int)==0)=false:=by simp;omega
 have hn1:(1:Int)<n:=by omega
 go_enter Tryz.func215,Tryz.ntmps215
 go_wp2_with (go_at_call 163;refine(muy _).mono ?_;rintro e w' ⟨rfl,rfl⟩)
 go_loopw [6] (fun i wr=>∃(k:Nat) (E:List Nat),n≤k∧k≤5∧i=.int .i64 k∧E.length=5∧Hid (fill5 E (5-k) k=R)∧wr.heap[w.heap.size]?=some (.cells (bV E).toArray 184 (0,0))∧Below w.heap.size w wr) (fun i _=>5-(intOf i).toNat)
 case atStart=>exact⟨n,D,Nat.le_refl _,by omega,rfl,h5,HF,hbox,(Below.refl _ _).alloc (Nat.le_refl _) _⟩
 clear hbox HF
 case round =>
  obtain⟨k,E,k1,k2,rfl,hE,HK,hb,bl⟩:=hrel
  by_cases hk:k<5
  ·obtain⟨x,hx⟩:∃ x,wr.cell? ⟨w.heap.size,k,none⟩=some x:=by
    rw[ceb hb]
    exact⟨_,Array.getElem?_eq_getElem (by simp[bV,hE];omega)⟩
   have fx:wr.frozen? ⟨w.heap.size,k,none⟩=false:=frb hb
   have hk':(k:Int)<5:=by omega
   have HB2:Hid ((wr.setCell ⟨w.heap.size,k,none⟩ (.int .u8 117)).heap[w.heap.size]?=some (.cells (bV (E.set k 117)).toArray 184 (0,0))):=by
    unfold Hid
    rw[bsC _ hb]
    exact congrArg (fun C=>some (Obj.cells C 184 (0,0))) (bVs E k 117)
   have HBL:=hide bl
   clear hb bl
   go_wp2
   go_roundw
   case rel =>
    refine⟨k+1,E.set k 117,by omega,by omega,by go_num,by rw[List.length_set];exact hE,?_,HB2.o,HBL.o.setCell (Nat.le_refl _) _⟩
    have:=HK.o
    rw[show 5-k=(5-(k+1))+1 by omega,fill5]at this
    exact this
   case measure=>simp[intOf];omega
  ·obtain rfl:k=5:=by omega
   obtain rfl:E=R:=HK.o
   have hcs:Hid (wr.rangeAt w.heap.size 0 (bV E)):=by
    intro j v hj
    rw[ceb hb,Nat.zero_add]
    simpa using hj
   have hi5:Hid ((Tryz.prog.info? 184).map (·.size)=some (bV E).length):=by
    unfold Hid bV;rw[List.length_map,hE];kernel_rfl
   have HBL:=hide bl
   have hsz:=bl.size
   clear hb bl HK
   go_wp2_with (refine wpList_load_mid rfl 184 (.tmp 4) rfl w.heap.size 0 rfl _ _ hcs.o Tryz.underlying184 rfl hi5.o ?_)
   refine(HB.o _).mono ?_
   rintro e w1 ⟨rfl,b1⟩
   have HR1:=hide ((h.ofBelow (HBL.o.trans (b1.mono hsz))))
   have K1:=hide (HBL.o.trans (b1.mono hsz))
   clear h HBL b1 HB hcs hi5
   have hsl:=rs w1.heap.size n hn hn2
   have htl:((aO V).take (n-1)).length=n-1:=by rw[List.length_take];show min (n-1) 4=_;omega
   have HP:=hide (puo (HR1.o.alloc (.cells #[.int .u8 (V/16777216:Nat),.int .u8 (V/65536%256:Nat),.int .u8 (V/256%256:Nat),.int .u8 (V%256:Nat)] 153)) ((aO V).take (n-1)) ⟨w1.heap.size,0,none⟩ 4 (by rw[htl];exact ho) (by have:=HR1.o.sz;simp;omega) (by
    intro i hi
    rw[htl]at hi
    rw[aa,ceb (bln _ _)]
    have e:nth ((aO V).take (n-1)) i=nth (aO V) i:=by simp[nth,List.getElem?_take,hi]
    rw[e]
    have h4:i<4:=by omega
    match i,h4 with
    |0,_=>rfl
    |1,_=>rfl
    |2,_=>rfl
    |3,_=>rfl))
   rw[htl]at HP
   go_wp2_with fail
   refine HP.o.mono ?_
   rintro e w2 ⟨rfl,ov',r2,k2⟩
   go_wp2
   go_end0
   exact⟨rfl,ov',r2,((Kept.refl _ _ _ _).trans ⟨K1.o.os,K1.o.tape,K1.o.output,K1.o.size,fun i o _ ho _=>by rw[K1.o.block i (lt_of_block ho)];exact ho⟩ |>.alloc _).trans k2⟩
theorem Kept.setNew{e B:Nat}{S:List Nat}{a w:World}(h:Kept e B S a w){q:Addr}(hp:a.heap.size≤q.block)(u:Value):Kept e B S a (w.setCell q u):=
 ⟨h.os,h.tape,h.output,by have:=h.size;simpa[World.setCell]using this,fun k o hk ho hc=>by
  have:=lt_of_block ho
  rw[Below.heap_setCell _ _ _ _ (by omega)];exact h.block k o hk ho hc⟩
theorem Rd.other{b t i:Nat}{C:Array Value}{fz:Nat × Nat}(h:Rd B br bd off cap d most w p ov out)(hb:w.heap[b]?=some (.cells C t fz))(ht:t ≠ 5)(h1:b≠br)(h2:b≠bd)(v:Value):Rd B br bd off cap d most (w.setCell ⟨b,i,none⟩ v) p ov out:=
 ⟨h.hB,h.hb,by rw[bsCn _ (fun e=>h1 e.symm)];exact h.blk,fun j hj=>by rw[cn _ h2];exact h.dat j hj,ownsRow_setCell_other h.own (own_ne h.own hb ht) _,h.byt,h.cp,h.lc,h.lm,h.lo,h.lp⟩
theorem rob{W:World}{b T:Nat}{l:List Nat}{fz:Nat × Nat}(h:W.heap[b]?=some (.cells (bV l).toArray T fz)):Hid (W.rangeAt b 0 (bV l)):=by
 intro j v hj
 rw[ceb h,Nat.zero_add]
 simpa using hj
theorem diw(g:Nat)(h1:33≤g)(h2:g≤126):whB g=false:=by
 unfold whB;simp;omega
def shV(g0 g1 g2 g3 n:Nat):Nat:=a85V [g0,g1,if n≤2 then 117 else g2,if n≤3 then 117 else g3,117] 0
theorem pSp(h:Rd B br bd off cap d most w p ov out)(G:List Nat)(hG:G.length=5)(n:Nat)(hn:2≤n)(hn2:n≤4)(hg:∀ i,i<n→33≤nth G i∧nth G i≤117)(V:Nat)(hV:shV (nth G 0) (nth G 1) (nth G 2) (nth G 3) n=V)(hm:V≤4294967295)(ho:out.length+(n-1)≤most) :
  Calls Tryz.prog 215 #[.pointer (some ⟨br,0,none⟩),.agg (bV (partly G n)).toArray,.int .i64 n] w fun e w'=>e=.returned (.tuple #[])∧∃ ov',Rd B br bd off cap d most w' p ov' (out++(aO V).take (n-1))∧Kept 5 B [br] w w':=by
 match G,hG with
 | [g0,g1,g2,g3,g4],_ =>
  have k0:=hg 0 (by omega)
  have k1:=hg 1 (by omega)
  obtain rfl | rfl | rfl:n=2∨n=3∨n=4:=by omega
  ·exact pSo h g0 g1 0 0 0 2 (by omega) (by omega) k0 k1 (by simp) (by simp) V hV hm ho
  ·have k2:=hg 2 (by omega)
   exact pSo h g0 g1 g2 0 0 3 (by omega) (by omega) k0 k1 k2 (by simp) V hV hm ho
  ·have k2:=hg 2 (by omega)
   have k3:=hg 3 (by omega)
   exact pSo h g0 g1 g2 g3 0 4 (by omega) (by omega) k0 k1 k2 k3 V hV hm ho
theorem aGs(h:Rd B br bd off cap d most w p ov out)(G:List Nat)(hG:G.length=5)(n:Nat)(hn:2≤n)(hn2:n≤4)(hp:p+n+1<d.length)(hd:∀ i,i<n→nth d (p+i)=nth G i)(hg:∀ i,i<n→33≤nth G i∧nth G i≤117)
  (he1:nth d (p+n)=126) (he2:nth d (p+n+1)=62) (V:Nat) (hV:shV (nth G 0) (nth G 1) (nth G 2) (nth G 3) n=V) (hm:V≤4294967295) (ho:out.length+(n-1)≤most) :
  Calls Tryz.prog 157 #[.pointer (some ⟨br,0,none⟩)] w fun e w'=>e=.returned (.bool false)∧∃ ov',Rd B br bd off cap d most w' (p+n+2) ov' (out++(aO V).take (n-1))∧Kept 5 B [br] w w':=by
 have HD:=hide hd
 have HG:=hide hg
 have HE1:=hide he1
 have HE2:=hide he2
 have HPS:Hid (∀(W:World) (q:Nat),Rd B br bd off cap d most W q ov out→Calls Tryz.prog 215 #[.pointer (some ⟨br,0,none⟩),.agg (bV (partly G n)).toArray,.int .i64 n] W fun e w'=>e=.returned (.tuple #[])∧∃ ov',Rd B br bd off cap d most w' q ov' (out++(aO V).take (n-1))∧Kept 5 B [br] W w'):=fun W q hq=>pSp hq G hG n hn hn2 hg V hV hm ho
 have hbr:=lt_of_block h.blk
 have hlen:=h.cp
 have hlc:=h.lc
 have hb0:(w.alloc (.cells (bV (partly G 0)).toArray 184 (0,0))).heap[w.heap.size]?=some (.cells (bV (partly G 0)).toArray 184 (0,0)):=bln _ _
 have e0:(bV (partly G 0)).toArray=#[.int .u8 0,.int .u8 0,.int .u8 0,.int .u8 0,.int .u8 0]:=by
  rw[paz,hG];rfl
 rw[e0]at hb0
 have HB0:=hide hb0
 have E0:=hide e0
 have HR0:=hide (h.alloc (.cells #[.int .u8 0,.int .u8 0,.int .u8 0,.int .u8 0,.int .u8 0] 184 (0,0)))
 clear hd hg he1 he2 hV hm hb0 e0 h
 go_enter Tryz.func157,Tryz.ntmps157
 go_wp2
 go_loopw [7] (fun i wr=>∃ k:Nat,k≤n∧i=.int .i64 k∧wr.heap[w.heap.size]?=some (.cells (bV (partly G k)).toArray 184 (0,0))∧Rd B br bd off cap d most wr (p+k) ov out∧Kept 5 B [br] w wr) (fun i _=>5-(intOf i).toNat)
 case atStart=>exact⟨0,by omega,rfl,by rw[E0.o];exact HB0.o,HR0.o,(Kept.refl _ _ _ _).alloc _⟩
 clear HB0 E0 HR0
 case round =>
  obtain⟨k,hk,rfl,hb,hr,kk⟩:=hrel
  have lit0:(({ data:=#[126,62] }:ByteArray)[0]'(by decide)).toNat=126:=rfl
  have lit1:(({ data:=#[126,62] }:ByteArray)[1]'(by decide)).toNat=62:=rfl
  have hbB:=hr.hB
  have hBb:=hr.hb
  by_cases hkn:k<n
  ·have hg:=HG.o k hkn
   have HN:=hide (nIo hr (by omega) (by rw[HD.o k hkn];exact diw _ (by omega) (by omega)))
   rw[HD.o k hkn]at HN
   have HST:=hide (pas G k (by omega))
   have hlp:(partly G k).length=5:=by rw[pal,hG]
   generalize nth G k=g at *
   have e1:((g:Int)==126)=false:=by simp;omega
   have e2:((g:Int)==122)=false:=by simp;omega
   have HBK:=hide hb
   have HKK:=hide kk
   have hk5:k<5:=by omega
   clear hb kk hr
   go_wp2_with fail
   refine HN.o.mono ?_
   rintro e w1 ⟨rfl,r1,k1⟩
   have hb1:=k1.block w.heap.size _ (by simp;omega) HBK.o (Or.inr (by intro c fz e;simp at e))
   obtain⟨x,hx⟩:∃ x,w1.cell? ⟨w.heap.size,k,none⟩=some x:=by
    rw[ceb hb1]
    exact⟨_,Array.getElem?_eq_getElem (by simp[bV,hlp];omega)⟩
   have fx:w1.frozen? ⟨w.heap.size,k,none⟩=false:=frb hb1
   have HB2:Hid ((w1.setCell ⟨w.heap.size,k,none⟩ (.int .u8 (g:Nat))).heap[w.heap.size]?=some (.cells (bV (partly G (k+1))).toArray 184 (0,0))):=by
    unfold Hid
    rw[bsC _ hb1,HST.o]
    exact congrArg (fun C=>some (Obj.cells C 184 (0,0))) (bVs (partly G k) k g)
   have HR2:=hide (r1.other (i:=k) hb1 (by decide) (by omega) (by omega) (.int .u8 (g:Nat)))
   have HK2:=hide (Kept.setNew (HKK.o.trans k1) (q:=⟨w.heap.size,k,none⟩) (Nat.le_refl _) (.int .u8 (g:Nat)))
   clear r1 k1 hb1 HBK HKK HN HST
   go_wp2_with (first | (go_at_call 216;refine(wby _ _ _ _ (by omega) (by omega)).mono ?_;rintro e w' ⟨rfl,rfl⟩) | (go_at_call 163;refine(muy _).mono ?_;rintro e w' ⟨rfl,rfl⟩))
   go_roundw
   case rel=>exact⟨k+1,by omega,by go_num,HB2.o,HR2.o,HK2.o⟩
   case measure=>simp[intOf];omega
  ·obtain rfl:k=n:=by omega
   have HN:=hide (nIo hr (by omega) (by rw[HE1.o];rfl))
   rw[HE1.o]at HN
   have hk5:(k:Int)<5:=by omega
   have HBK:=hide hb
   have HKK:=hide kk
   clear hb kk hr
   go_wp2_with fail
   refine HN.o.mono ?_
   rintro e w1 ⟨rfl,r1,k1⟩
   have hb1:=hide (k1.block w.heap.size _ (by simp;omega) HBK.o (Or.inr (by intro c fz e;simp at e)))
   have K1:=hide (HKK.o.trans k1)
   have HN2:=hide (neo (w:=w1.drew) (r1.drewN 1) (by omega))
   rw[show p+k+1=p+k+1 from rfl,HE2.o]at HN2
   clear r1 k1 HBK HKK HN
   go_wp2_with fail
   go_region_with (first | (go_at_call 214;refine HN2.o.mono ?_;rintro e w2 ⟨rfl,r2,k2⟩) | (go_at_call 163;refine(muy _).mono ?_;rintro e w' ⟨rfl,rfl⟩))
   all_goals (
    have HR2:=hide r2
    have hb2:=k2.block w.heap.size _ (by simp;omega) (show w1.drew.heap[w.heap.size]?=_ from hb1.o) (Or.inr (by intro c fz e;simp at e))
    have K2:=hide ((K1.o.drew).trans k2)
    have hcs:=rob hb2
    have hi5:Hid ((Tryz.prog.info? 184).map (·.size)=some (bV (partly G k)).length):=by
     unfold Hid bV;rw[List.length_map,pal,hG];kernel_rfl
    clear r2 k2 hb2
    go_wp2_with (refine wpList_load_mid rfl 184 (.tmp 3) rfl w.heap.size 0 rfl _ _ hcs.o Tryz.underlying184 rfl hi5.o ?_)
    refine(HPS.o _ _ HR2.o).mono ?_
    rintro e w3 ⟨rfl,ov3,r3,k3⟩
    go_wp2
    go_ret
    exact⟨rfl,ov3,r3,K2.o.trans k3⟩)
end
section
variable{B:Nat}{w:World}
theorem hexLit(n:Nat)(h:n<16)(h2:n<({ data:=#[48,49,50,51,52,53,54,55,56,57,97,98,99,100,101,102] }:ByteArray).size):(({ data:=#[48,49,50,51,52,53,54,55,56,57,97,98,99,100,101,102] }:ByteArray)[n]'h2).toNat=Fo.hexDig n:=by
 match n,h with
 |0,_=>rfl
 |1,_=>rfl
 |2,_=>rfl
 |3,_=>rfl
 |4,_=>rfl
 |5,_=>rfl
 |6,_=>rfl
 |7,_=>rfl
 |8,_=>rfl
 |9,_=>rfl
 |10,_=>rfl
 |11,_=>rfl
 |12,_=>rfl
 |13,_=>rfl
 |14,_=>rfl
 |15,_=>rfl
 |n+16,h=>omega
theorem heN{w:World}{a b:Nat}{x y:Int}(ex:x=a)(ey:y=b):∀ j u,([a,b].map fun x:Nat=>Value.int .u8 (x:Int))[j]?=some u→(w.alloc (.cells #[.int .u8 x,.int .u8 y] 5)).drew.cell? ((⟨w.heap.size,0,none⟩:Addr).add j)=some u:=by
 subst ex ey
 intro j u hu
 match j,hu with
 |0,hu =>
  show(w.alloc _).cell? ⟨w.heap.size,0+0,none⟩=_
  rw[World.cell?_alloc_new];exact hu
 |1,hu =>
  show(w.alloc _).cell? ⟨w.heap.size,0+1,none⟩=_
  rw[World.cell?_alloc_new];exact hu
 |j+2,hu=>simp at hu
end
section
variable{w:World}{B bw T:Nat}{rest:List Value}{ov:Value}{out:List Nat}{used:Nat}{bs:List Bool}
theorem nBs(n v:Nat):Fo.numBits (n+1) v=Fo.numBits n v++[(v/2^n)%2==1]:=by
 induction n generalizing v with
 |zero=>simp[Fo.numBits]
 |succ n ih =>
  rw[Fo.numBits,ih (v/2),Fo.numBits,List.cons_append,Nat.div_div_eq_div_mul,←Nat.pow_succ']
theorem ans(v i:Nat)(hv:v<2^62):bits .and .i64 ((v:Int)/2^i) 1=(((v/2^i)%2==1).toNat:Nat):=by
 have e:((v:Int)/2^i)=((v/2^i:Nat):Int):=by rw[Int.natCast_ediv,Int.natCast_pow];rfl
 have h1:v/2^i≤v:=Nat.div_le_self _ _
 have h2:=ian (v/2^i) 1 (by omega) (by omega)
 rw[e]
 refine h2.trans ?_
 rw[nat_mask1]
 rcases Nat.mod_two_eq_zero_or_one (v/2^i)with h | h<;>rw[h]<;>rfl
theorem wbo(h:Wx B bw T rest w bs)(v n:Nat)(hv:v<2^62)(hn:n≤62)(hl:bs.length+n≤1099511627776) :
  Calls Tryz.prog 203 #[.pointer (some ⟨bw,0,none⟩),.int .i64 v,.int .i64 n] w fun e w'=>e=.returned (.tuple #[])∧Wx B bw T rest w' (bs++Fo.numBits n v)∧Kept 5 B [bw] w w':=by
 go_enter Tryz.func203,Tryz.ntmps203
 go_wp2
 go_loopw [8] (fun i wr=>∃ k:Nat,k≤n∧i=.int .i64 k∧Wx B bw T rest wr (bs++Fo.numBits k v)∧Kept 5 B [bw] w wr) (fun i _=>n-(intOf i).toNat)
 case atStart=>exact⟨0,Nat.zero_le _,rfl,by simpa[Fo.numBits]using h,Kept.refl _ _ _ _⟩
 case round =>
  obtain⟨k,hk,rfl,hf,kk⟩:=hrel
  by_cases hlt:k<n
  ·have ho:=ans v k hv
   have hlen:(bs++Fo.numBits k v).length≤1099511627776:=by rw[List.length_append,Fo.numBits_length];omega
   have hs:=hide (nBs k v)
   clear hv
   go_wp2_with fail
   refine(wo_1 hf hlen _).mono ?_
   rintro e w1 ⟨rfl,hf1,k1⟩
   go_wp2
   go_roundw
   case rel=>exact⟨k+1,by omega,by go_num,by rw[hs.o,←List.append_assoc];exact hf1,kk.trans k1⟩
   case measure=>simp[intOf];omega
  ·obtain rfl:k=n:=by omega
   go_wp2
   go_end0
   exact⟨rfl,hf,kk⟩
theorem wao(h:Wx B bw T rest w bs) :
  Calls Tryz.prog 270 #[.pointer (some ⟨bw,0,none⟩)] w fun e w'=>e=.returned (.tuple #[])∧Wx B bw T rest w' (bs++List.replicate ((8-bs.length%8)%8) false)∧Kept 5 B [bw] w w':=by
 obtain⟨ov,out,used,hq,hb⟩:=h
 have c1:=hq.c1
 have f1:=hq.fz 1
 go_enter Tryz.func270,Tryz.ntmps270
 go_wp2
 go_end0
 refine⟨rfl,⟨ov,out,0,hq.set1 0,?_⟩,(Kept.refl _ _ _ _).setCell (by simp) _⟩
 rw[hb.2.1];exact hb.align
theorem hiBs(v n:Nat):∀ k,k≤n→Fo.highBits v n=(Fo.highBits v n).take (n-k)++Fo.highBits v k:=by
 induction n with
 |zero =>
  intro k hk;obtain rfl:k=0:=by omega
  simp[Fo.highBits]
 |succ n ih =>
  intro k hk
  by_cases c:k=n+1
  ·subst c;simp
  ·rw[show n+1-k=(n-k)+1 by omega,Fo.highBits,List.take_succ_cons,List.cons_append,←ih k (by omega)]
theorem hBl(v n:Nat):(Fo.highBits v n).length=n:=by
 induction n with
 |zero=>rfl
 |succ n ih=>simp[Fo.highBits,ih]
theorem hBs_(v n k:Nat)(hk:k+1≤n):(Fo.highBits v n).take (n-k)=(Fo.highBits v n).take (n-(k+1))++[(v/2^k)%2==1]:=by
 have h1:=hiBs v n k (by omega)
 have h2:=hiBs v n (k+1) hk
 have e:Fo.highBits v (k+1)=[(v/2^k)%2==1]++Fo.highBits v k:=by simp only[Fo.highBits,List.cons_append,List.nil_append,Nat.shiftRight_eq_div_pow]
 rw[e,←List.append_assoc]at h2
 exact List.append_cancel_right (h1.symm.trans h2)
def cV(x:Nat × Nat):Value:=.agg #[.int .i64 (x.1:Nat),.int .i64 (x.2:Nat)]
theorem wco(h:Wx B bw T rest w bs)(x:Nat × Nat)(hv:x.1<2^62)(hn:x.2≤62)(hl:bs.length+x.2≤1099511627776) :
  Calls Tryz.prog 205 #[.pointer (some ⟨bw,0,none⟩),cV x] w fun e w'=>e=.returned (.tuple #[])∧Wx B bw T rest w' (bs++Fo.highBits x.1 x.2)∧Kept 5 B [bw] w w':=by
 obtain⟨v,n⟩:=x
 unfold cV
 simp only[]at hv hn hl ⊢
 have hbw:B≤bw∧bw<w.heap.size:=by obtain⟨_,_,_,hq,_⟩:=h;exact⟨hq.hb,lt_of_block hq.blk⟩
 go_enter Tryz.func205,Tryz.ntmps205
 go_wp2
 go_loopw [4] (fun i wr=>∃ k:Nat,k≤n∧i=.int .i64 ((k:Int)-1)∧Wx B bw T rest wr (bs++(Fo.highBits v n).take (n-k))∧Kept 5 B [bw] (w.alloc (.cells #[.int .i64 v,.int .i64 n] 197)) wr) (fun i _=>(intOf i+1).toNat)
 case atStart=>exact⟨n,Nat.le_refl _,rfl,by simpa using h.alloc _,Kept.refl _ _ _ _⟩
 case round =>
  obtain⟨k,hk,rfl,hf,kk⟩:=hrel
  have hbox:=kk.block w.heap.size _ (by simp;omega) (bln _ _) (Or.inr (by intro c fz e;simp at e))
  by_cases hlt:0<k
  ·obtain⟨j,rfl⟩:∃ j,k=j+1:=⟨k-1,by omega⟩
   have hb0:wr.cell? ⟨w.heap.size,0,none⟩=some (.int .i64 (v:Nat)):=ceb hbox
   have ho:=ans v j hv
   have hlen:(bs++(Fo.highBits v n).take (n-(j+1))).length≤1099511627776:=by rw[List.length_append,List.length_take,hBl];omega
   have hs:=hide (hBs_ v n j hk)
   have ej:((j+1:Nat):Int)-1=j:=by omega
   rw[ej]
   clear hv hbox ej
   go_wp2_with fail
   refine(wo_1 hf hlen _).mono ?_
   rintro e w1 ⟨rfl,hf1,k1⟩
   go_wp2
   go_roundw
   case rel=>exact⟨j,by omega,by go_num,by rw[hs.o,←List.append_assoc];exact hf1,kk.trans k1⟩
   case measure=>simp[intOf]
  ·obtain rfl:k=0:=by omega
   go_wp2
   go_end0
   refine⟨rfl,?_,((Kept.refl _ _ _ _).alloc _).trans kk⟩
   rwa [Nat.sub_zero,List.take_of_length_le (by rw[hBl];omega)]at hf
end
section
variable{w:World}
def tnth(t:List (Nat × Nat))(i:Nat):Nat × Nat:=t.getD i (0,0)
def CodeRow(w:World)(g:Nat)(t:List (Nat × Nat)):Prop:=
 ∃ C:Array Value,w.heap[g]?=some (.cells C 197 (0,0))∧C.size=2*t.length∧∀ i,i<t.length→C[i*2]?=some (.int .i64 ((tnth t i).1:Nat))∧C[i*2+1]?=some (.int .i64 ((tnth t i).2:Nat))
theorem CodeRow.set{g:Nat}{t:List (Nat × Nat)}(h:CodeRow w g t)(s:Nat)(x:Nat × Nat) :
  CodeRow ((w.setCell ⟨g,s*2,none⟩ (.int .i64 (x.1:Nat))).setCell ⟨g,s*2+1,none⟩ (.int .i64 (x.2:Nat))) g (t.set s x):=by
 obtain⟨C,h1,h2,h3⟩:=h
 refine⟨_,bsC _ (bsC _ h1),by simp[h2],fun i hi=>?_⟩
 rw[List.length_set]at hi
 obtain⟨e1,e2⟩:=h3 i hi
 by_cases c:s=i
 ·subst c
  have e:tnth (t.set s x) s=x:=by simp[tnth,hi]
  rw[e]
  constructor
  ·rw[Array.getElem?_setIfInBounds_ne (by omega),Array.getElem?_setIfInBounds_self_of_lt (by omega)]
  ·rw[Array.getElem?_setIfInBounds_self_of_lt (by simp;omega)]
 ·have e:tnth (t.set s x) i=tnth t i:=by simp[tnth,List.getElem?_set_ne c]
  rw[e]
  constructor
  ·rw[Array.getElem?_setIfInBounds_ne (by omega),Array.getElem?_setIfInBounds_ne (by omega)];exact e1
  ·rw[Array.getElem?_setIfInBounds_ne (by omega),Array.getElem?_setIfInBounds_ne (by omega)];exact e2
theorem CodeRow.there{g:Nat}{t:List (Nat × Nat)}(h:CodeRow w g t)(s:Nat)(hs:s<t.length):w.there g (s*2) 2:=by
 obtain⟨C,h1,h2,h3⟩:=h
 intro j hj
 refine⟨?_,frb h1⟩
 rw[ceb h1,Array.getElem?_eq_getElem (by omega)];rfl
theorem CodeRow.made{w1:World}{B g N:Nat}(h:w1.ownsRow B 197 2 (.slice (some ⟨g,0,none⟩) N N) N (madeCells #[.int .i64 0,.int .i64 0] (N*2)).toList):CodeRow w1 g (List.replicate N (0,0)):=by
 rcases h.2 with⟨h0,_⟩ | ⟨g',cap,cur,hv,_,hh,_,_,hcs,ht⟩
 ·cases h0
 cases hv
 have e:cur.toList=(madeCells #[.int .i64 0,.int .i64 0] (N*2)).toList:=by
  rw[←ht,List.take_of_length_le (by rw[Array.length_toList,hcs];omega)]
 have e':cur=madeCells #[.int .i64 0,.int .i64 0] (N*2):=Array.toList_inj.1 e
 refine⟨cur,hh,by rw[hcs];simp;omega,fun i hi=>?_⟩
 rw[List.length_replicate]at hi
 have t0:tnth (List.replicate N (0,0)) i=(0,0):=by simp[tnth,hi]
 rw[t0,e',madeCells]
 constructor
 ·rw[Array.getElem?_map,Array.getElem?_range,if_pos (by omega)];simp
 ·rw[Array.getElem?_map,Array.getElem?_range,if_pos (by omega)]
  simp[show(i*2+1)%2=1 by omega]
def laid(ss:List Nat)(t:List (Nat × Nat))(len V P:Nat):Nat→List (Nat × Nat)
 |0=>t
 |i+1=>(laid ss t len V P i).set (nth ss (P+i)) (V+i,len)
def valAt(cs:List Nat):Nat→Nat
 |0=>0
 |k+1=>2*valAt cs k+nth cs (k+1)
def tabAt(cs ss:List Nat)(n:Nat):Nat→List (Nat × Nat)
 |0=>List.replicate n (0,0)
 |k+1=>laid ss (tabAt cs ss n k) (k+1) (2*valAt cs k) (psum cs k) (nth cs (k+1))
theorem lal(ss:List Nat)(t:List (Nat × Nat))(len V P i:Nat):(laid ss t len V P i).length=t.length:=by
 induction i with
 |zero=>rfl
 |succ i ih=>simp[laid,ih]
theorem tAl(cs ss:List Nat)(n k:Nat):(tabAt cs ss n k).length=n:=by
 induction k with
 |zero=>simp[tabAt]
 |succ k ih=>rw[tabAt,lal,ih]
theorem tFa:tabAt Fo.csF Fo.ssF 288 15=Fo.tabF:=by decide +kernel
theorem tadF_at:tabAt Fo.cdF Fo.sdF 32 15=Fo.tadF:=by decide +kernel
theorem Tryz.infoCode:(Tryz.prog.info? 197).map (fun i=>(i.zero,i.size,i.bytes))=some (some (.agg #[.int .i64 0,.int .i64 0]),2,16):=by kernel_rfl
theorem ip{z:Value}{s b:Nat}{t:TypeId}(h:(Tryz.prog.info? t).map (fun i=>(i.zero,i.size,i.bytes))=some (some z,s,b)):∃ i,Tryz.prog.info? t=some i∧i.zero=some z∧i.size=s∧i.bytes=b:=by
 cases hi : Tryz.prog.info? t with
 |none=>rw[hi]at h;simp at h
 |some i=>rw[hi]at h;simp at h;exact⟨i,rfl,h.1,h.2.1,h.2.2⟩
theorem Cd.below{bc oc B:Nat}{cs ss:List Nat}{w':World}(h:Cd w bc oc cs ss)(k:Below B w w')(hb:bc<B)(hs:∀ g c,w.cell? ⟨bc,oc+16,none⟩=some (.slice (some ⟨g,0,none⟩) ss.length c)→g<B):Cd w' bc oc cs ss:=by
 obtain⟨h1,g,c,h2,h3⟩:=h
 have:=hs g c h2
 exact⟨fun i hi=>(k.cell (p:=⟨bc,oc+i,none⟩) hb).trans (h1 i hi),g,c,(k.cell (p:=⟨bc,oc+16,none⟩) hb).trans h2,fun i hi=>(k.cell (p:=⟨g,i,none⟩) this).trans (h3 i hi)⟩
theorem bSo(bc oc n:Nat)(cs ss:List Nat)(hC:Cd w bc oc cs ss)(hn:n≤300)(hsum:psum cs 15≤ss.length)(hss:ss.length≤1000)(hs:∀ i,i<ss.length→nth ss i<n)(hv:∀ k,k≤15→valAt cs k≤100000) :
  Calls Tryz.prog 261 #[.pointer (some ⟨bc,oc,none⟩),.int .i64 n] w fun e w'=>e=.returned (.slice (some ⟨w.heap.size,0,none⟩) n n)∧CodeRow w' w.heap.size (tabAt cs ss n 15)∧Below w.heap.size w w':=by
 obtain⟨i0,hi,hz0,hz1,hz2⟩:=ip Tryz.infoCode
 obtain⟨h1,g,c,h2,h3⟩:=hC
 have hbc:bc<w.heap.size:=World.block_lt_of_cell? w _ h2
 go_enter Tryz.func261,Tryz.ntmps261
 go_wp2_with (at_make;refine wpList_make_full _ rfl _ _ 192 rfl w.heap.size 197 i0 (.agg #[.int .i64 0,.int .i64 0]) 2 Tryz.underlying192 hi hz0 hz1 .i64 .i64 _ _ n rfl rfl (by omega) (by omega) (by rw[hz2];omega) (by unfold maxLen;omega) (Nat.le_refl _) ?_;intro w1 hown1 hg1;have hrow:=CodeRow.made hown1)
 have hbl:Below w.heap.size w w1:=⟨hg1.os,hg1.tape,hg1.output,hg1.size,fun k hk=>hg1.block k hk (by simp)⟩
 clear hown1 hg1 hz0 hz1 hz2 hi
 have H1:=hide h1
 have H3:=hide h3
 have HS:=hide hs
 have HV:=hide hv
 have HSS:=hide (And.intro hsum hss)
 have hgl:g<w.heap.size∨ss.length=0:=by
  rcases Nat.eq_zero_or_pos ss.length with h0 | h0
  ·exact Or.inr h0
  ·exact Or.inl (World.block_lt_of_cell? w _ (h3 0 h0))
 have HGL:=hide hgl
 clear h1 h3 hs hv hsum hss hgl
 go_loopw [6,7,8] (fun v pl l wr=>∃ k:Nat,k≤15∧l=.int .i64 (k+1:Nat)∧v=.int .i64 (valAt cs k:Nat)∧pl=.int .i64 (psum cs k:Nat)∧CodeRow wr w.heap.size (tabAt cs ss n k)∧Below w.heap.size w wr) (fun _ _ l _=>16-(intOf l).toNat)
 case atStart=>exact⟨0,by omega,rfl,rfl,rfl,hrow,hbl⟩
 clear hrow hbl
 case round =>
  obtain⟨k,hk,rfl,rfl,rfl,hrow,hbl⟩:=hrel
  by_cases hlt:k<15
  ·have hcc:=(hbl.cell (p:=⟨bc,oc+(k+1),none⟩) hbc).trans (H1.o (k+1) (by omega))
   have hv0:=HV.o k hk
   have hv1:=HV.o (k+1) hlt
   have hpm:=pm cs (k+1) 15 (by omega)
   have hps:psum cs (k+1)=psum cs k+nth cs (k+1):=rfl
   have hva:valAt cs (k+1)=2*valAt cs k+nth cs (k+1):=rfl
   have hl1:=HSS.o
   have HTB:Hid (∀ i,i<nth cs (k+1)→nth ss (psum cs k+i)<n∧psum cs k+i<ss.length∧g<w.heap.size):=by
    intro i hi
    have hgl:=HGL.o
    exact⟨HS.o _ (by omega),by omega,by omega⟩
   have hN:nth cs (k+1)≤1000:=by omega
   have hP:psum cs k≤1000:=by omega
   have HPS:=hide hps
   have HVA:=hide hva
   have HT:Hid (tabAt cs ss n (k+1)=laid ss (tabAt cs ss n k) (k+1) (2*valAt cs k) (psum cs k) (nth cs (k+1))):=rfl
   clear hps hva hpm hv1 hl1
   generalize hNN:nth cs (k+1)=N at *
   generalize hPP:psum cs k=P at *
   generalize hVV:valAt cs k=V at *
   generalize hTT:tabAt cs ss n k=tb at *
   have htb:tb.length=n:=by rw[←hTT,tAl]
   clear hNN hPP hVV hTT
   go_wp2
   go_loopw [6,7,23] (fun v pl i wr=>∃ j:Nat,j≤N∧i=.int .i64 (j:Nat)∧v=.int .i64 (2*V+j:Nat)∧pl=.int .i64 (P+j:Nat)∧CodeRow wr w.heap.size (laid ss tb (k+1) (2*V) P j)∧Below w.heap.size w wr) (fun _ _ i _=>N-(intOf i).toNat)
   case atStart=>exact⟨0,by omega,rfl,by go_num,by go_num,hrow,hbl⟩
   clear hrow hbl hcc
   case round =>
    obtain⟨j,hj,rfl,rfl,rfl,hrow,hbl⟩:=hrel
    by_cases hjl:j<N
    ·obtain⟨t1,t2,t3⟩:=HTB.o j hjl
     have d2:=(hbl.cell (p:=⟨bc,oc+16,none⟩) hbc).trans h2
     have d3:=(hbl.cell (p:=⟨g,P+j,none⟩) t3).trans (H3.o (P+j) t2)
     obtain⟨hth0,f4⟩:=hrow.there (nth ss (P+j)) (by rw[lal,htb];exact t1) 0 (by omega)
     obtain⟨hth1,f5⟩:=hrow.there (nth ss (P+j)) (by rw[lal,htb];exact t1) 1 (by omega)
     obtain⟨u4,d4⟩:=Option.isSome_iff_exists.1 hth0
     obtain⟨u5,d5⟩:=Option.isSome_iff_exists.1 hth1
     simp only[Nat.add_zero]at d4 f4
     clear hth0 hth1
     have hst:=hide (hrow.set (nth ss (P+j)) (2*V+j,k+1))
     have HL:Hid (laid ss tb (k+1) (2*V) P (j+1)=(laid ss tb (k+1) (2*V) P j).set (nth ss (P+j)) (2*V+j,k+1)):=rfl
     clear hrow
     generalize hSS:nth ss (P+j)=S at *
     clear hSS
     have hb2:=hide ((hbl.setCell (p:=⟨w.heap.size,S*2,none⟩) (Nat.le_refl _) (.int .i64 (2*V+j:Nat))).setCell (p:=⟨w.heap.size,S*2+1,none⟩) (Nat.le_refl _) (.int .i64 (k+1:Nat)))
     go_wp2
     go_roundw
     case rel=>exact⟨j+1,by omega,by go_num,by go_num,by go_num,by rw[HL.o];exact hst.o,hb2.o⟩
     case measure=>simp[intOf];omega
    ·obtain rfl:j=N:=by omega
     go_wp2
     go_roundw
     case rel=>exact⟨k+1,by omega,by go_num,by rw[HVA.o],by rw[HPS.o],by rw[HT.o];exact hrow,hbl⟩
     case measure=>simp[intOf];omega
  ·obtain rfl:k=15:=by omega
   go_wp2
   go_ret
   exact⟨rfl,hrow,hbl⟩
end
end Go.Proofs.YtgkljcmjnphpeaaGreatDoor
