import Derived.Test.YtgkljcmjnphpeaaGreatDoorK27
import Derived.Stop.BytesEq
set_option linter.unusedVariables false
set_option linter.unusedSimpArgs false
set_option maxHeartbeats 2000000
set_option maxRecDepth 100000
namespace Go.Proofs.YtgkljcmjnphpeaaGreatDoor
open Go.RowKit
section
variable{w:World}
def zero34:Obj:=.cells ((ints (List.replicate 16 0)++[Value.slice none 0 0])++(ints (List.replicate 16 0)++[Value.slice none 0 0])).toArray 164 (0,0)
def partly(l:List Nat)(k:Nat):List Nat:=(List.range l.length).map fun i=>if i<k then nth l i else 0
theorem pal(l:List Nat)(k:Nat):(partly l k).length=l.length:=by simp[partly]
theorem ntp(l:List Nat)(k i:Nat)(h:i<l.length):nth (partly l k) i=if i<k then nth l i else 0:=by
 simp[partly,nth,h]
theorem paz(l:List Nat):partly l 0=List.replicate l.length 0:=by
 refine lie _ _ (by simp[partly]) ?_
 intro i hi
 rw[pal]at hi
 rw[ntp _ _ _ hi,if_neg (by omega),nr _ _ _ hi]
theorem paa(l:List Nat):partly l l.length=l:=by
 refine lie _ _ (by simp[partly]) ?_
 intro i hi
 rw[pal]at hi
 rw[ntp _ _ _ hi,if_pos hi]
theorem pas(l:List Nat)(k:Nat)(h:k<l.length):partly l (k+1)=(partly l k).set k (nth l k):=by
 refine lie _ _ (by simp[partly]) ?_
 intro i hi
 rw[pal]at hi
 rw[ntp _ _ _ hi]
 by_cases c:k=i
 ·subst c;rw[nss _ _ _ (by rw[pal];exact h),if_pos (by omega)]
 ·rw[nsn _ _ _ _ c,ntp _ _ _ hi]
  by_cases c2:i<k
  ·rw[if_pos c2,if_pos (by omega)]
  ·rw[if_neg c2,if_neg (by omega)]
theorem lel:Fo.lensFixed.length=288:=by decide +kernel
theorem dl0:Fo.distFixed.length=32:=by decide +kernel
theorem ln_:∀ k:Fin 288,nth Fo.lensFixed k.val=if k.val≤143 then 8 else if k.val≤255 then 9 else if k.val≤279 then 7 else 8:=by decide +kernel
theorem din:∀ k:Fin 32,nth Fo.distFixed k.val=5:=by decide +kernel
structure Lw(w wr:World)(g:Nat)(l:List Nat):Prop where
 below:Below w.heap.size w wr
 res:wr.heap[w.heap.size]?=some zero34
 row:wr.heap[g]?=some (.cells (ints l).toArray 3 (0,0))
theorem Lw.cell{wr:World}{g:Nat}{l:List Nat}(h:Lw w wr g l)(i:Nat)(hi:i<l.length):wr.cell? ⟨g,i,none⟩=some (.int .i64 (nth l i:Nat)):=by
 rw[ceb h.row,List.getElem?_toArray];exact ig _ _ hi
theorem Lw.set{wr:World}{g:Nat}{l:List Nat}(h:Lw w wr g l)(hg:w.heap.size<g)(i x:Nat):Lw w (wr.setCell ⟨g,i,none⟩ (.int .i64 x)) g (l.set i x):=by
 refine⟨h.below.setCell (by show w.heap.size≤g;omega) _,?_,?_⟩
 ·rw[bsCn _ (by omega)];exact h.res
 ·rw[bsC _ h.row];simp[ints,List.map_set]
theorem list17(A:List Value)(h:A.length=17):∃ a0 a1 a2 a3 a4 a5 a6 a7 a8 a9 a10 a11 a12 a13 a14 a15 a16,A=[a0,a1,a2,a3,a4,a5,a6,a7,a8,a9,a10,a11,a12,a13,a14,a15,a16]:=
 match A,h with
 | [a0,a1,a2,a3,a4,a5,a6,a7,a8,a9,a10,a11,a12,a13,a14,a15,a16],_=>⟨a0,a1,a2,a3,a4,a5,a6,a7,a8,a9,a10,a11,a12,a13,a14,a15,a16,rfl⟩
theorem bul(a0 a1 a2 a3 a4 a5 a6 a7 a8 a9 a10 a11 a12 a13 a14 a15 a16 b0 b1 b2 b3 b4 b5 b6 b7 b8 b9 b10 b11 b12 b13 b14 b15 b16:Value)(W:World):(Instr.build 164 #[(0,.agg #[a0,a1,a2,a3,a4,a5,a6,a7,a8,a9,a10,a11,a12,a13,a14,a15,a16]),(1,.agg #[b0,b1,b2,b3,b4,b5,b6,b7,b8,b9,b10,b11,b12,b13,b14,b15,b16])]).run Tryz.prog W=.ok (.agg #[a0,a1,a2,a3,a4,a5,a6,a7,a8,a9,a10,a11,a12,a13,a14,a15,a16,b0,b1,b2,b3,b4,b5,b6,b7,b8,b9,b10,b11,b12,b13,b14,b15,b16]) W:=by kernel_rfl
theorem rub(X Y:List Value)(hx:X.length=17)(hy:Y.length=17)(W:World):(Instr.build 164 #[(0,.agg X.toArray),(1,.agg Y.toArray)]).run Tryz.prog W=.ok (.agg (X++Y).toArray) W:=by
 obtain⟨a0,a1,a2,a3,a4,a5,a6,a7,a8,a9,a10,a11,a12,a13,a14,a15,a16,rfl⟩:=list17 X hx
 obtain⟨b0,b1,b2,b3,b4,b5,b6,b7,b8,b9,b10,b11,b12,b13,b14,b15,b16,rfl⟩:=list17 Y hy
 exact bul a0 a1 a2 a3 a4 a5 a6 a7 a8 a9 a10 a11 a12 a13 a14 a15 a16 b0 b1 b2 b3 b4 b5 b6 b7 b8 b9 b10 b11 b12 b13 b14 b15 b16 W
theorem wLb{P:Program}{w:World}{ops:Array Oper}{rest:List Oper}{o:Oper}{a:Act}{Q:Exit→Act→World→Prop}(hgd:o.guard=none)(t i j:Nat)(x y:Operand)(ho:o.op=.build t #[(i,x),(j,y)])
  (vx vy v:Value) (hx:a.eval x=vx) (hy:a.eval y=vy) (hrun:∀ W,(Instr.build t #[(i,vx),(j,vy)]).run P W=.ok v W) (h:wpList P ops Q rest (a.put o.dst v) w):wpList P ops Q (o::rest) a w:=by
 refine wpList_plain hgd fun K hK=>?_
 unfold Oper.wp
 simp[execOp,ho,hx,hy,hrun,Result.andThen]
 exact hK _ _ h
theorem there34{wr:World}{b:Nat}(h:wr.heap[b]?=some zero34):wr.there b 0 34:=by
 intro j hj
 have h':wr.heap[b]?=some (.cells ((ints (List.replicate 16 0)++[Value.slice none 0 0])++(ints (List.replicate 16 0)++[Value.slice none 0 0])).toArray 164 (0,0)):=h
 refine⟨?_,frb h'⟩
 rw[ceb h',List.getElem?_toArray,List.getElem?_eq_getElem (by simp[ints];omega)];rfl
theorem fCg(L1 L2:List Nat)(len1:L1.length=288)(len2:L2.length=32)(n1:∀ k,k<288→nth L1 k=if k≤143 then 8 else if k≤255 then 9 else if k≤279 then 7 else 8)(n2:∀ k,k<32→nth L2 k=5):Calls Tryz.prog 159 #[] w fun e w'=>∃ g1 g2,e=.returned (.agg ((ints (cz L1)++[Value.slice (some ⟨g1,0,none⟩) (cz L1).sum (cz L1).sum])++(ints (cz L2)++[Value.slice (some ⟨g2,0,none⟩) (cz L2).sum (cz L2).sum])).toArray)∧IntRow w' g1 (fT L1 288).2∧IntRow w' g2 (fT L2 32).2∧Below w.heap.size w w'∧w.heap.size≤g1∧w.heap.size≤g2:=by
 obtain⟨i0,hi,hz0,hz1,hz2⟩:=info_parts Tryz.infoInt
 have N1:=hide n1
 have N2:=hide n2
 clear n1 n2
 go_enter Tryz.func159,Tryz.ntmps159
 go_wp2_with (at_make;refine wpList_make_full _ rfl _ _ 52 rfl (w.heap.size+1) 3 i0 (.int .i64 0) 1 Tryz.underlying52 hi hz0 hz1 .i64 .i64 _ _ 288 rfl rfl (by omega) (by omega) (by rw[hz2];omega) (by unfold maxLen;omega) (by simp) ?_;intro w1 hown1 hg1;have hrow:=rm hown1)
 have hl1:Lw w w1 (w.heap.size+1) (partly L1 0):=by
  rw[paz,len1]
  refine⟨((Below.refl _ _).alloc (Nat.le_refl _) _).grown hg1 (by simp) (fun k h=>by cases h),?_,by simpa using hrow⟩
  rw[hg1.block _ (by simp) (by simp)];exact bln w zero34
 clear hown1 hg1 hrow
 go_loopw [8] (fun i wr=>∃ k:Nat,k≤288∧i=.int .i64 k∧Lw w wr (w.heap.size+1) (partly L1 k)) (fun i _=>288-(intOf i).toNat)
 case atStart=>exact⟨0,by omega,rfl,hl1⟩
 clear hl1
 case round =>
  obtain⟨k,hk,rfl,lw⟩:=hrel
  by_cases hlt:k<288
  ·have c1:=lw.cell k (by rw[pal,len1];exact hlt)
   have f1:wr.frozen? ⟨w.heap.size+1,k,none⟩=false:=frb lw.row
   have hn:=N1.o k hlt
   have HN:=hide hn
   have HSTEP:=hide (pas L1 k (by rw[len1];exact hlt))
   have HLW:=hide lw
   clear hn lw
   have fin:∀ x:Nat,nth L1 k=x→Lw w (wr.setCell ⟨w.heap.size+1,k,none⟩ (.int .i64 x)) (w.heap.size+1) (partly L1 (k+1)):=by
    intro x hx
    rw[HSTEP.o,hx];exact HLW.o.set (by omega) k x
   have FIN:=hide fin
   clear fin
   generalize hQ:nth (partly L1 k) k=Qq at c1
   clear hQ
   have hlt':(k:Int)<288:=by omega
   rcases(show k≤143∨(143<k∧k≤255)∨(255<k∧k≤279)∨279<k by omega)with h1 | h1 | h1 | h1
   ·have h2:(k:Int)≤143:=by omega
    go_wp2
    go_roundw
    case rel=>exact⟨k+1,by omega,by go_num,FIN.o 8 (by rw[HN.o,if_pos h1])⟩
    case measure=>simp[intOf];omega
   ·have h2:¬ (k:Int)≤143:=by omega
    have h3:(k:Int)≤255:=by omega
    go_wp2
    go_roundw
    case rel=>exact⟨k+1,by omega,by go_num,FIN.o 9 (by rw[HN.o,if_neg (by omega),if_pos h1.2])⟩
    case measure=>simp[intOf];omega
   ·have h2:¬ (k:Int)≤143:=by omega
    have h3:¬ (k:Int)≤255:=by omega
    have h4:(k:Int)≤279:=by omega
    go_wp2
    go_roundw
    case rel=>exact⟨k+1,by omega,by go_num,FIN.o 7 (by rw[HN.o,if_neg (by omega),if_neg (by omega),if_pos h1.2])⟩
    case measure=>simp[intOf];omega
   ·have h2:¬ (k:Int)≤143:=by omega
    have h3:¬ (k:Int)≤255:=by omega
    have h4:¬ (k:Int)≤279:=by omega
    go_wp2
    go_roundw
    case rel=>exact⟨k+1,by omega,by go_num,FIN.o 8 (by rw[HN.o,if_neg (by omega),if_neg (by omega),if_neg (by omega)])⟩
    case measure=>simp[intOf];omega
  ·obtain rfl:k=288:=by omega
   have hall:partly L1 288=L1:=by have:=paa L1;rw[len1]at this;exact this
   rw[hall]at lw
   clear hall hk hlt
   obtain⟨wo,hwo⟩:∃ wo:World,wo=wr:=⟨_,rfl⟩
   subst hwo
   have hsz:=lt_of_block lw.row
   go_wp2_with (at_make;refine wpList_make_full _ rfl _ _ 52 rfl (w.heap.size+1) 3 i0 (.int .i64 0) 1 Tryz.underlying52 hi hz0 hz1 .i64 .i64 _ _ 32 rfl rfl (by omega) (by omega) (by rw[hz2];omega) (by unfold maxLen;omega) (by omega) ?_;intro w1 hown1 hg1;have hrow:=rm hown1)
   have hl2:Lw w w1 wo.heap.size (partly L2 0)∧w1.heap[w.heap.size+1]?=some (.cells (ints L1).toArray 3 (0,0)):=by
    rw[paz,len2]
    refine⟨⟨lw.below.grown hg1 (by omega) (fun k h=>by cases h),?_,hrow⟩,?_⟩
    ·rw[hg1.block _ (by omega) (by simp)];exact lw.res
    ·rw[hg1.block _ (by omega) (by simp)];exact lw.row
   clear hown1 hg1 hrow lw
   go_loopw [36] (fun i wr=>∃ k:Nat,k≤32∧i=.int .i64 k∧Hid (Lw w wr wo.heap.size (partly L2 k)∧wr.heap[w.heap.size+1]?=some (.cells (ints L1).toArray 3 (0,0)))) (fun i _=>32-(intOf i).toNat)
   case atStart=>exact⟨0,by omega,rfl,hl2⟩
   clear hl2
   case round =>
    obtain⟨k,hk,rfl,HH⟩:=hrel
    obtain⟨lw,hrow⟩:=HH.o
    clear HH
    by_cases hlt:k<32
    ·have c1:=lw.cell k (by rw[pal,len2];exact hlt)
     have f1:wr.frozen? ⟨wo.heap.size,k,none⟩=false:=frb lw.row
     have hstep:=pas L2 k (by rw[len2];exact hlt)
     have hn:=N2.o k hlt
     rw[hn]at hstep
     have FIN:Hid (Lw w (wr.setCell ⟨wo.heap.size,k,none⟩ (.int .i64 (5:Nat))) wo.heap.size (partly L2 (k+1))∧(wr.setCell ⟨wo.heap.size,k,none⟩ (.int .i64 (5:Nat))).heap[w.heap.size+1]?=some (.cells (ints L1).toArray 3 (0,0))):=by
      refine⟨by rw[hstep];exact lw.set (by omega) k 5,?_⟩
      rw[bsCn _ (by omega)];exact hrow
     clear hstep hn lw hrow
     generalize hQ:nth (partly L2 k) k=Qq at c1
     clear hQ
     have hlt':(k:Int)<32:=by omega
     go_wp2
     go_roundw
     case rel=>exact⟨k+1,by omega,by go_num,FIN⟩
     case measure=>simp[intOf];omega
    ·obtain rfl:k=32:=by omega
     have hall:partly L2 32=L2:=by have:=paa L2;rw[len2]at this;exact this
     rw[hall]at lw
     clear hall hk hlt
     have hs1:=lt_of_block hrow
     have hs2:=lt_of_block lw.row
     have hcall1:=cOo (w:=wr) (w.heap.size+1) 0 288 L1 (fun i hi=>by rw[len1]at hi;rw[N1.o i hi];split<;>(try split)<;>(try split)<;>omega) (by rw[len1];omega) hs1 (fun i hi=>by rw[Nat.zero_add,ceb hrow,List.getElem?_toArray];exact ig _ _ hi)
     rw[len1]at hcall1
     have HC1:=hide hcall1
     have HLW:=hide (And.intro lw hrow)
     clear hcall1 lw hrow
     go_wp2_with fail
     refine HC1.o.mono ?_
     rintro e w2 ⟨g1,rfl,ir1,b1,hg1⟩
     have hcall2:=cOo (w:=w2) wo.heap.size 0 32 L2 (fun i hi=>by rw[len2]at hi;rw[N2.o i hi];omega) (by rw[len2];omega) (by have:=b1.size;omega) (fun i hi=>by
      rw[Nat.zero_add,b1.cell (p:=⟨wo.heap.size,i,none⟩) hs2,ceb HLW.o.1.row,List.getElem?_toArray];exact ig _ _ hi)
     rw[len2]at hcall2
     have HC2:=hide hcall2
     clear hcall2
     go_wp2_with fail
     refine HC2.o.mono ?_
     rintro e w3 ⟨g2,rfl,ir2,b2,hg2⟩
     clear HC1 HC2
     have hX:(ints (cz L1)++[Value.slice (some ⟨g1,0,none⟩) (cz L1).sum (cz L1).sum]).length=17:=by simp[ints,cl]
     have hY:(ints (cz L2)++[Value.slice (some ⟨g2,0,none⟩) (cz L2).sum (cz L2).sum]).length=17:=by simp[ints,cl]
     have hbuild:=rub _ _ hX hY
     have hone:((ints (cz L1)++[Value.slice (some ⟨g1,0,none⟩) (cz L1).sum (cz L1).sum])++(ints (cz L2)++[Value.slice (some ⟨g2,0,none⟩) (cz L2).sum (cz L2).sum])).toArray.all (·.oneCell')=true:=by simp[ints,Value.oneCell']
     have hres:w3.heap[w.heap.size]?=some zero34:=by
      have hsB:=b1.size
      rw[b2.block _ (by omega),b1.block _ (by omega)];exact HLW.o.1.res
     have hbel:Below w.heap.size w w3:=(HLW.o.1.below.trans (b1.mono (by omega))).trans (b2.mono (by have:=b1.size;omega))
     have hr1:IntRow w3 g1 (fT L1 288).2:=by
      obtain⟨c,fz,hb,hc⟩:=ir1
      exact⟨c,fz,by rw[b2.block _ (lt_of_block hb)];exact hb,hc⟩
     have hsg2:w.heap.size≤g2:=by have:=b1.size;omega
     have hsg1:w.heap.size<g1:=by omega
     have hsg2':w.heap.size<g2:=by have:=b1.size;omega
     clear ir1 b1 b2 hg1 hg2 HLW
     generalize hXX:ints (cz L1)++[Value.slice (some ⟨g1,0,none⟩) (cz L1).sum (cz L1).sum]=X at *
     generalize hYY:ints (cz L2)++[Value.slice (some ⟨g2,0,none⟩) (cz L2).sum (cz L2).sum]=Y at *
     have HX:=hide hXX
     have HY:=hide hYY
     clear hXX hYY
     have hsz34:(X++Y).length=34:=by rw[List.length_append,hX,hY]
     have hszA:(X++Y).toArray.size=34:=List.size_toArray.trans hsz34
     have hi34:Hid ((Tryz.prog.info? 164).map (·.size)=some (X++Y).toArray.size):=by unfold Hid;rw[hszA];kernel_rfl
     have ht34:Hid (w3.there w.heap.size 0 (X++Y).toArray.size):=by unfold Hid;rw[hszA];exact there34 hres
     have hfin:Hid ((w3.setCells w.heap.size 0 (X++Y)).heap[w.heap.size]?=some (.cells (X++Y).toArray 164 (0,0))):=sCw hres (by rw[hsz34];rfl)
     have hq1:Hid (IntRow (w3.setCells w.heap.size 0 (X++Y)) g1 (fT L1 288).2):=by
      obtain⟨c,fz,hb,hc⟩:=hr1
      exact⟨c,fz,by rw[sCn _ (by omega)];exact hb,hc⟩
     have hq2:Hid (IntRow (w3.setCells w.heap.size 0 (X++Y)) g2 (fT L2 32).2):=by
      obtain⟨c,fz,hb,hc⟩:=ir2
      exact⟨c,fz,by rw[sCn _ (by omega)];exact hb,hc⟩
     have hq3:Hid (Below w.heap.size w (w3.setCells w.heap.size 0 (X++Y))):=sCb _ _ (Nat.le_refl _) _ _ _ _ hbel
     clear hres hbel hr1 ir2 hX hY hsz34 hszA
     have HB:=hide hbuild
     clear hbuild
     have tokb:True:=trivial
     go_wp2_with (first | (have _t:=tokb;refine wLb (by rfl) 164 0 1 (.tmp 44) (.tmp 46) (by rfl) (.agg X.toArray) (.agg Y.toArray) (.agg (X++Y).toArray) (by rfl) (by rfl) HB.o ?_;clear tokb) | (refine wpList_store_mid (by rfl) 164 (.tmp 0) (.tmp 47) (by rfl) w.heap.size 0 (X++Y).toArray (by rfl) (by rfl) ht34.o hi34.o hone ?_))
     refine bodyPost_ret (v:=.agg (X++Y).toArray) ?_ rfl ⟨g1,g2,?_,hq1.o,hq2.o,hq3.o,by omega,by omega⟩
     ·exact results_cell_row Tryz.results159 _ _ w.heap.size 164 _ _ _ rfl hfin.o Tryz.underlying164 rfl hi34.o
     ·rw[←HX.o,←HY.o]
def fC(g1 g2:Nat):List Value:=ints Fo.csF++(Value.slice (some ⟨g1,0,none⟩) Fo.ssF.length Fo.ssF.length::(ints Fo.cdF++[Value.slice (some ⟨g2,0,none⟩) Fo.sdF.length Fo.sdF.length]))
theorem cFs:Fo.csF.sum=Fo.ssF.length∧Fo.cdF.sum=Fo.sdF.length:=by decide +kernel
theorem fCl(g1 g2:Nat):(fC g1 g2).length=34:=by
 unfold fC ints
 rw[List.length_append,List.length_map,cFl,List.length_cons,List.length_append,List.length_map,cdFl];rfl
theorem fCo:Calls Tryz.prog 159 #[] w fun e w'=>∃ g1 g2,e=.returned (.agg (fC g1 g2).toArray)∧IntRow w' g1 Fo.ssF∧IntRow w' g2 Fo.sdF∧Below w.heap.size w w'∧w.heap.size≤g1∧w.heap.size≤g2:=by
 refine(fCg Fo.lensFixed Fo.distFixed lel dl0 (fun k hk=>ln_ ⟨k,hk⟩) (fun k hk=>din ⟨k,hk⟩)).mono ?_
 rintro e w' ⟨g1,g2,rfl,i1,i2,b,h1,h2⟩
 rw[fic.1,fic.2.2.1,cFs.1,cFs.2]
 rw[fic.2.1]at i1
 rw[fic.2.2.2]at i2
 refine⟨g1,g2,?_,i1,i2,b,h1,h2⟩
 unfold fC
 rw[List.append_assoc];rfl
end
section
variable{B br bf bd off cap:Nat}{d:List Nat}{most:Nat}{fixed:List Value}{w:World}{p held left window:Nat}{ov:Value}{out:List Nat}
theorem Bi.set3(h:Bi B br bf bd off cap d most fixed w p held left window ov out)(x:Nat):Bi B br bf bd off cap d most fixed (w.setCell ⟨bf,3,none⟩ (.int .i64 x)) p held left x ov out:=by
 refine⟨h.rd.setOther _ h.hbf h.ne h.own_ne,h.hbf,?_,h.hh,h.hl⟩
 rw[bsC _ h.blk];simp
theorem oh:bits .or .i64 (30720:Int) 156=30876:=by decide +kernel
theorem ah:bits .and .i64 (120:Int) 15=8:=by decide +kernel
theorem anh:bits .and .i64 (156:Int) 32=0:=by decide +kernel
theorem heo(h:Bi B br bf bd off cap d most fixed w 0 held left window ov out)(hl:2≤d.length)(d0:nth d 0=120)(d1:nth d 1=156) :
  Calls Tryz.prog 160 #[.pointer (some ⟨bf,0,none⟩)] w fun e w'=>e=.returned (.tuple #[])∧Bi B br bf bd off cap d most fixed w' 2 held left 32768 ov out∧Kept 5 B [br,bf] w w':=by
 have c0:=h.c0
 have tok:True:=trivial
 have D0:=hide d0
 have D1:=hide d1
 clear d0 d1
 have o1:=oh
 have o2:=ah
 have o3:=anh
 go_enter Tryz.func160,Tryz.ntmps160
 go_wp2_with fail
 go_region_with (first | (go_at_call 214;have _t:=tok;refine(neo (h.rd.drewN 1) (by omega)).mono ?_;rintro e w1 ⟨rfl,r1,k1⟩;have h1:=h.rdKept r1 (((Kept.refl _ _ _ _).drewN 1).trans k1);have c1:=h1.c0;clear tok) | (go_at_call 214;refine(neo r1 (by omega)).mono ?_;rintro e w2 ⟨rfl,r2,k2⟩;have h2:=h1.rdKept r2 k2;have c2:=h2.c0;have c3:=h2.c3;have f3:=h2.fz 3))
 all_goals (have kk:Kept 5 B [br,bf] w w2:=((Kept.refl _ _ _ _).drewN 1).trans ((k1.trans k2).mono (by simp)))
 all_goals (clear k1 k2)
 all_goals (simp only[D0.o,D1.o,Nat.zero_add])
 all_goals (go_wp2_with (first | (go_at_call 63;refine(wiy _ _ _ _ (by omega) (by omega)).mono ?_;rintro e w' ⟨rfl,rfl⟩) | (go_at_call 163;refine(muy _).mono ?_;rintro e w' ⟨rfl,rfl⟩)))
 all_goals go_end0
 all_goals exact⟨rfl,h2.set3 32768,kk.setCell (by simp) _⟩
end
section
variable{B:Nat}{w:World}
def sumAB(l:List Nat):Nat × Nat:=l.foldl (fun s d=>((s.1+d)%65521,(s.2+(s.1+d)%65521)%65521)) (1,0)
def sum4(l:List Nat):List Nat:=[(sumAB l).2/256,(sumAB l).2%256,(sumAB l).1/256,(sumAB l).1%256]
theorem sAl(l:List Nat):(sumAB l).1<65521∧(sumAB l).2<65521:=by
 unfold sumAB
 suffices h:∀(l:List Nat) (s:Nat × Nat),s.1<65521∧s.2<65521→(l.foldl (fun s d=>((s.1+d)%65521,(s.2+(s.1+d)%65521)%65521)) s).1<65521∧(l.foldl (fun s d=>((s.1+d)%65521,(s.2+(s.1+d)%65521)%65521)) s).2<65521 from h l _ ⟨by decide,by decide⟩
 intro l
 induction l with
 |nil=>intro s h;exact h
 |cons d l ih=>intro s _;exact ih _ ⟨Nat.mod_lt _ (by decide),Nat.mod_lt _ (by decide)⟩
theorem sAs(l:List Nat)(d:Nat):sumAB (l++[d])=(((sumAB l).1+d)%65521,((sumAB l).2+((sumAB l).1+d)%65521)%65521):=by
 simp[sumAB]
def suV(l:List Nat):Value:=.agg #[.int .u8 ((sumAB l).2/256:Nat),.int .u8 ((sumAB l).2%256:Nat),.int .u8 ((sumAB l).1/256:Nat),.int .u8 ((sumAB l).1%256:Nat)]
theorem suo(ao:Option Addr)(cap:Nat)(l:List Nat)(hB:B≤w.heap.size)(hdat:Dat w B ao l)(hl:l.length≤1000000000)(hb:∀ i,i<l.length→nth l i<256) :
  Calls Tryz.prog 149 #[.slice ao l.length cap] w fun e w'=>e=.returned (suV l)∧∃ o,w'=w.alloc o:=by
 go_enter Tryz.func149,Tryz.ntmps149
 go_wp2
 go_loop [3,4,9] (fun a b i=>∃ k:Nat,k≤l.length∧i=.int .i64 k∧a=.int .i64 (sumAB (l.take k)).1∧b=.int .i64 (sumAB (l.take k)).2) (fun _ _ i=>l.length-(intOf i).toNat)
 case atStart=>exact⟨0,Nat.zero_le _,rfl,rfl,rfl⟩
 case round =>
  obtain⟨k,hk,rfl,rfl,rfl⟩:=hrel
  have hs:=sAl (l.take k)
  by_cases hlt:k<l.length
  ·obtain⟨bd,off,rfl,hbd,hc0⟩:=hdat k hlt
   have hc:(w.alloc (.cells #[.int .u8 0,.int .u8 0,.int .u8 0,.int .u8 0] 153)).cell? ⟨bd,off+k,none⟩=some (.int .u8 (nth l k:Nat)):=by rw[World.cell?_alloc_lt _ _ _ (by show bd<_;omega)];exact hc0
   have hx:=hb k hlt
   have hsn:=hide (sAs (l.take k) (nth l k))
   have hts:Hid (l.take (k+1)=l.take k++[nth l k]):=by rw[List.take_succ_eq_append_getElem hlt];simp[nth,hlt,Hid]
   generalize hA:(sumAB (l.take k)).1=A at *
   generalize hBB:(sumAB (l.take k)).2=BB at *
   have HA:=hide hA
   have HB:=hide hBB
   clear hA hBB
   go_wp2
   go_round
   case rel =>
    refine⟨k+1,by omega,by go_num,?_,?_⟩
    ·rw[hts.o,hsn.o]
     simp
    ·rw[hts.o,hsn.o]
     simp
   case measure=>simp[intOf];omega
  ·obtain rfl:k=l.length:=by omega
   rw[List.take_length]at hs ⊢
   generalize hA:(sumAB l).1=A at *
   generalize hBB:(sumAB l).2=BB at *
   have HA:=hide hA
   have HB:=hide hBB
   clear hA hBB
   go_wp2
   refine bodyPost_ret (v:=suV l) (by simp[results,Tryz.results149,go_sem,suV,HA.o,HB.o]) rfl ⟨rfl,?_⟩
   exact⟨_,rfl⟩
end
theorem sb_(W:World):(sizeOf 5).run Tryz.prog W=.ok 1 W:=by kernel_rfl
theorem re(a0 a1 a2 a3 b0 b1 b2 b3:Nat)(h0:a0<256)(h1:a1<256)(h2:a2<256)(h3:a3<256)(k0:b0<256)(k1:b1<256)(k2:b2<256)(k3:b3<256)(W:World) :
  (Op.equalIn 10000 153 (.agg #[.int .u8 (a0:Int),.int .u8 (a1:Int),.int .u8 (a2:Int),.int .u8 (a3:Int)]) (.agg #[.int .u8 (b0:Int),.int .u8 (b1:Int),.int .u8 (b2:Int),.int .u8 (b3:Int)])).run Tryz.prog W=.ok (decide ([a0,a1,a2,a3]=[b0,b1,b2,b3])) W:=by
 have h:=run_equalIn_bytes (P:= Tryz.prog) W 9998 153 5 4 Tryz.underlying153 Tryz.underlying5 sb_ [UInt8.ofNat a0,UInt8.ofNat a1,UInt8.ofNat a2,UInt8.ofNat a3] [UInt8.ofNat b0,UInt8.ofNat b1,UInt8.ofNat b2,UInt8.ofNat b3] rfl rfl
 have e:∀ n:Nat,n<256→(UInt8.ofNat n).toNat=n:=fun n hn=>by simp[Nat.mod_eq_of_lt hn]
 have inj:∀ m n:Nat,m<256→n<256→(UInt8.ofNat m=UInt8.ofNat n↔m=n):=fun m n hm hn=>⟨fun h=>by rw[←e m hm,←e n hn,h],fun h=>by rw[h]⟩
 have hb:([UInt8.ofNat a0,UInt8.ofNat a1,UInt8.ofNat a2,UInt8.ofNat a3]==[UInt8.ofNat b0,UInt8.ofNat b1,UInt8.ofNat b2,UInt8.ofNat b3])=decide ([a0,a1,a2,a3]=[b0,b1,b2,b3]):=by
  rw[Bool.eq_iff_iff,beq_iff_eq,decide_eq_true_iff]
  simp only[List.cons.injEq,and_true,inj a0 b0 h0 k0,inj a1 b1 h1 k1,inj a2 b2 h2 k2,inj a3 b3 h3 k3]
 rw[hb]at h
 simp only[List.map_cons,List.map_nil,Extern.Stop.cell,e _ h0,e _ h1,e _ h2,e _ h3,e _ k0,e _ k1,e _ k2,e _ k3]at h
 rw[show(9998+2:Nat)=10000 from rfl]at h
 exact h
section
variable{B br bf bd off cap:Nat}{d:List Nat}{most:Nat}{fixed:List Value}{w:World}{p held left window:Nat}{ov:Value}{out:List Nat}
structure SA(most:Nat)(r:List Bool)(out D:List Nat)(r':List Bool):Prop where
 h0:0<D.length
 h1:D.length≤65535
 h2:∀ i,i<D.length→nth D i<256
 h3:r.drop (r.length%8)=Fo.numBits 16 D.length++(Fo.numBits 16 (65535-D.length)++(Fo.bitsOf D++r'))
 h4:r'.length%8=0
 h5:out.length+D.length≤most
def Blocks(window most:Nat)(r:List Bool)(out:List Nat)(r':List Bool)(out':List Nat):Prop:=
 ∀ P:List Bool→List Nat→List Bool→List Nat→Prop,
  (∀ r r' out out',Fo.PartsTo Fo.fixedC window most r out (.ok (r',out'))→P (true::(Fo.numBits 2 1++r)) out r' out') →
  (∀ r r' out D,SA most r out D r'→P (true::(Fo.numBits 2 0++r)) out r' (out++D)) →
  (∀ r r' r'' out out'' D,SA most r out D r'→P r' (out++D) r'' out''→P (false::(Fo.numBits 2 0++r)) out r'' out'')→P r out r' out'
section
variable{window most:Nat}{r r' r'':List Bool}{out out' out'':List Nat}
theorem Blocks.lastFixed(h:Fo.PartsTo Fo.fixedC window most r out (.ok (r',out'))):Blocks window most (true::(Fo.numBits 2 1++r)) out r' out':=fun _ h1 _ _=>h1 _ _ _ _ h
theorem Blocks.lastStored(D:List Nat)(h0:0<D.length)(h1:D.length≤65535)(h2:∀ i,i<D.length→nth D i<256)(h3:r.drop (r.length%8)=Fo.numBits 16 D.length++(Fo.numBits 16 (65535-D.length)++(Fo.bitsOf D++r')))(h4:r'.length%8=0)(h5:out.length+D.length≤most) :
  Blocks window most (true::(Fo.numBits 2 0++r)) out r' (out++D):=fun _ _ k _=>k _ _ _ _ ⟨h0,h1,h2,h3,h4,h5⟩
theorem Blocks.moreStored(D:List Nat)(h0:0<D.length)(h1:D.length≤65535)(h2:∀ i,i<D.length→nth D i<256)(h3:r.drop (r.length%8)=Fo.numBits 16 D.length++(Fo.numBits 16 (65535-D.length)++(Fo.bitsOf D++r')))(h4:r'.length%8=0)(h5:out.length+D.length≤most)
  (h6:Blocks window most r' (out++D) r'' out''):Blocks window most (false::(Fo.numBits 2 0++r)) out r'' out'':=fun P a b c=>c _ _ _ _ _ _ ⟨h0,h1,h2,h3,h4,h5⟩ (h6 P a b c)
def BH(window most:Nat)(rr:List Bool)(out:List Nat)(r'':List Bool)(out'':List Nat):Prop:=
 (∃ r,rr=true::(Fo.numBits 2 1++r)∧Fo.PartsTo Fo.fixedC window most r out (.ok (r'',out'')))∨(∃ r D,rr=true::(Fo.numBits 2 0++r)∧out''=out++D∧SA most r out D r'') ∨
  (∃ r r' D,rr=false::(Fo.numBits 2 0++r)∧SA most r out D r'∧Blocks window most r' (out++D) r'' out'')
theorem Blocks.parted(h:Blocks window most r out r' out'):BH window most r out r' out' :=
 (h (fun r out r' out'=>Blocks window most r out r' out'∧BH window most r out r' out')
  (fun r _ _ _ hp=>⟨.lastFixed hp,Or.inl ⟨r,rfl,hp⟩⟩)
  (fun r _ _ D hs=>⟨.lastStored D hs.h0 hs.h1 hs.h2 hs.h3 hs.h4 hs.h5,Or.inr (Or.inl ⟨r,D,rfl,rfl,hs⟩)⟩)
  (fun r r' _ _ _ D hs hk=>⟨.moreStored D hs.h0 hs.h1 hs.h2 hs.h3 hs.h4 hs.h5 hk.1,Or.inr (Or.inr ⟨r,r',D,rfl,hs,hk.1⟩)⟩)).2
end
theorem Fix.kept{w':World}(h:Fix w br bf fixed)(k:Kept 5 B [br,bf] w w'):Fix w' br bf fixed:=by
 obtain⟨g1,c1,g2,c2,he,i1,i2,n1,n2,n3,n4⟩:=h.ex
 exact⟨g1,c1,g2,c2,he,i1.kept k (by simp[n1,n2]),i2.kept k (by simp[n3,n4]),n1,n2,n3,n4⟩
theorem bl0(a0 a1 a2 a3 a4 a5 a6 a7 a8 a9 a10 a11 a12 a13 a14 a15 a16 b0 b1 b2 b3 b4 b5 b6 b7 b8 b9 b10 b11 b12 b13 b14 b15 b16:Value)(W:World)(b:Nat):(Instr.build 167 #[(0,.agg #[.pointer (some ⟨b,0,none⟩),.int .u8 0,.int .i64 0]),(2,.agg #[a0,a1,a2,a3,a4,a5,a6,a7,a8,a9,a10,a11,a12,a13,a14,a15,a16,b0,b1,b2,b3,b4,b5,b6,b7,b8,b9,b10,b11,b12,b13,b14,b15,b16])]).run Tryz.prog W=.ok (.agg #[.pointer (some ⟨b,0,none⟩),.int .u8 0,.int .i64 0,.int .i64 0,a0,a1,a2,a3,a4,a5,a6,a7,a8,a9,a10,a11,a12,a13,a14,a15,a16,b0,b1,b2,b3,b4,b5,b6,b7,b8,b9,b10,b11,b12,b13,b14,b15,b16]) W:=by kernel_rfl
theorem list38(X:List Value)(W:World)(b:Nat)(hx:X.length=34):(Instr.build 167 #[(0,.agg #[.pointer (some ⟨b,0,none⟩),.int .u8 0,.int .i64 0]),(2,.agg X.toArray)]).run Tryz.prog W=.ok (.agg (Value.pointer (some ⟨b,0,none⟩)::.int .u8 0::.int .i64 0::.int .i64 0::X).toArray) W:=by
 have h1:(X.take 17).length=17:=by rw[List.length_take];omega
 have h2:(X.drop 17).length=17:=by rw[List.length_drop];omega
 rw[←List.take_append_drop 17 X]
 generalize X.take 17=Y at h1
 generalize X.drop 17=Z at h2
 obtain⟨a0,a1,a2,a3,a4,a5,a6,a7,a8,a9,a10,a11,a12,a13,a14,a15,a16,rfl⟩:=list17 Y h1
 obtain⟨b0,b1,b2,b3,b4,b5,b6,b7,b8,b9,b10,b11,b12,b13,b14,b15,b16,rfl⟩:=list17 Z h2
 exact bl0 a0 a1 a2 a3 a4 a5 a6 a7 a8 a9 a10 a11 a12 a13 a14 a15 a16 b0 b1 b2 b3 b4 b5 b6 b7 b8 b9 b10 b11 b12 b13 b14 b15 b16 W b
theorem Rd.datOut(h:Rd B br bd off cap d most w p ov out)(hb:∀ i,i<out.length→nth out i<256):∃ ao c,ov=.slice ao out.length c∧Dat w w.heap.size ao out:=by
 rcases h.own.2 with⟨e1,e2⟩ | ⟨g,c,cur,e1,_,hh,hc⟩
 ·exact⟨none,0,by rw[e1,e2],fun i hi=>by omega⟩
 ·refine⟨_,c,e1,fun i hi=>⟨g,0,rfl,lt_of_block hh,?_⟩⟩
  have hown:=h.own
  rw[e1]at hown
  have:=hown.cellAt i (by omega)
  rw[Nat.zero_add,this]
  simp[nth,hi]
theorem Rd.datOut'{ao:Option Addr}{oc:Nat}(h:Rd B br bd off cap d most w p (.slice ao out.length oc) out):Dat w w.heap.size ao out:=by
 rcases h.own.2 with⟨e1,e2⟩ | ⟨g,c,cur,e1,_,hh,hc⟩
 ·intro i hi;omega
 ·cases e1
  refine fun i hi=>⟨g,0,rfl,lt_of_block hh,?_⟩
  have:=h.own.cellAt i (by omega)
  rw[Nat.zero_add,this]
  simp[nth,hi]
theorem raA(b o c:Nat)(W:World):(Instr.arrayAt 153 (.slice (some ⟨b,o,none⟩) 4 c)).run Tryz.prog W=.ok (.pointer (some ⟨b,o,none⟩)) W:=by kernel_rfl
theorem ket{e br bf:Nat}{w1 w':World}(b:Below w.heap.size w w1)(k:Kept e B [br,bf] w1 w')(hbf:w.heap.size≤bf):Kept e B [br] w w' :=
 ⟨k.os.trans b.os,k.tape.trans b.tape,k.output.trans b.output,Nat.le_trans b.size k.size,fun i o hi ho hc=>k.block i o (by
  have:=lt_of_block ho
  simp at hi ⊢;exact⟨hi,by omega⟩) (by rw[b.block i (lt_of_block ho)];exact ho) hc⟩
def Sfl(bf br bd o:Nat)(ptr sl:Value)(d:List Nat)(p:Nat)(_L:Array Bool)(W:World):Prop:=
 W.cell? ⟨bf,0,none⟩=some ptr∧W.cell? ⟨br,2,none⟩=some sl∧W.cell? ⟨bd,o,none⟩=some (.int .u8 (nth d p:Nat))∧W.cell? ⟨bd,o+1,none⟩=some (.int .u8 (nth d (p+1):Nat))∧W.cell? ⟨bd,o+2,none⟩=some (.int .u8 (nth d (p+2):Nat))∧W.cell? ⟨bd,o+3,none⟩=some (.int .u8 (nth d (p+3):Nat))
theorem sfl{L:Array Bool}{p0:Nat}(h:Bi B br bf bd off cap d most fixed w p held left window ov out)(hp:p0+4≤d.length):Sfl bf br bd (off+p0) (.pointer (some ⟨br,0,none⟩)) ov d p0 L w:=by
 refine⟨h.c0,h.rd.c2,h.rd.dat p0 (by omega),?_,?_,?_⟩
 ·rw[Nat.add_assoc];exact h.rd.dat (p0+1) (by omega)
 ·rw[Nat.add_assoc];exact h.rd.dat (p0+2) (by omega)
 ·rw[Nat.add_assoc];exact h.rd.dat (p0+3) (by omega)
theorem Rd.ofBelow{w1:World}(h:Rd B br bd off cap d most w p ov out)(b:Below w.heap.size w w1):Rd B br bd off cap d most w1 p ov out:=by
 have hsz:=h.sz
 have hB:=h.hB
 refine⟨h.hB,h.hb,?_,?_,?_,h.byt,h.cp,h.lc,h.lm,h.lo,h.lp⟩
 ·rw[b.block _ (lt_of_block h.blk)];exact h.blk
 ·intro i hi;rw[b.cell (p:=⟨bd,off+i,none⟩) (by show bd<_;omega)];exact h.dat i hi
 ·obtain⟨h1,h2⟩:=h.own
  refine⟨h1,?_⟩
  rcases h2 with h2 | ⟨g,c,cur,e1,e2,hh,hc⟩
  ·exact Or.inl h2
  ·exact Or.inr ⟨g,c,cur,e1,e2,by rw[b.block _ (lt_of_block hh)];exact hh,hc⟩
theorem Bi.start{w1:World}{F:List Value}(h:Rd B br bd off cap d most w1 0 ov []) :
  Bi B br w1.heap.size bd off cap d most F (w1.alloc (.cells (Value.pointer (some ⟨br,0,none⟩)::.int .u8 0::.int .i64 0::.int .i64 0::F).toArray 167 (0,0))) 0 0 0 0 ov []:=
 ⟨h.alloc _,by have:=h.sz;omega,bln _ _,by omega,by omega⟩
theorem Fix.start{w1:World}{g1 g2:Nat}(i1:IntRow w1 g1 Fo.ssF)(i2:IntRow w1 g2 Fo.sdF)(o:Obj)(n1:g1≠br)(n2:g2≠br):Fix (w1.alloc o) br w1.heap.size (fC g1 g2):=by
 obtain⟨c1,z1,h1,e1⟩:=i1
 obtain⟨c2,z2,h2,e2⟩:=i2
 exact⟨g1,_,g2,_,rfl,⟨c1,z1,bla _ h1,e1⟩,⟨c2,z2,bla _ h2,e2⟩,n1,by have:=lt_of_block h1;omega,n2,by have:=lt_of_block h2;omega⟩
theorem blc{rr r:List Bool}{o data:List Nat}{ov':Value}(hf:Fl B br bf bd off cap d most fixed w rr 32768 ov' o)(hx:Fix w br bf fixed)(hb:Blocks 32768 most rr o r data) :
  (Calls Tryz.prog 161 #[.pointer (some ⟨bf,0,none⟩)] w fun e w'=>e=.returned (.bool false)∧∃ ov'',Fl B br bf bd off cap d most fixed w' r 32768 ov'' data∧Kept 5 B [br,bf] w w') ∨
  (∃ r2 o2,(Calls Tryz.prog 161 #[.pointer (some ⟨bf,0,none⟩)] w fun e w'=>e=.returned (.bool true)∧∃ ov'',Fl B br bf bd off cap d most fixed w' r2 32768 ov'' o2∧Kept 5 B [br,bf] w w')∧r2.length<rr.length∧Blocks 32768 most r2 o2 r data):=by
 rcases hb.parted with⟨r0,rfl,hp⟩ | ⟨r0,D,rfl,rfl,hs⟩ | ⟨r0,r',D,rfl,hs,hb5⟩
 ·exact Or.inl (bfo true hx hf (by omega) hp)
 ·exact Or.inl (bso true D hs.h0 hs.h1 hs.h2 hf hs.h3 hs.h4 hs.h5)
 ·refine Or.inr ⟨_,_,bso false D hs.h0 hs.h1 hs.h2 hf hs.h3 hs.h4 hs.h5,?_,hb5⟩
  have:=congrArg List.length hs.h3
  rw[List.length_drop]at this
  simp only[List.length_append,Fo.numBits_length,List.length_cons]at this ⊢
  omega
end
end Go.Proofs.YtgkljcmjnphpeaaGreatDoor
