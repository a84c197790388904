import Derived.Test.YtgkljcmjnphpeaaGreatDoorK08
set_option linter.unusedVariables false
set_option linter.unusedSimpArgs false
set_option maxHeartbeats 4000000
set_option maxRecDepth 100000
namespace Go.Proofs.YtgkljcmjnphpeaaGreatDoor
open Go.RowKit
section
variable{B bs:Nat}{w w':World}
theorem bsN(l:List Nat)(h:∀ x∈l,x<256):bl (strN l)=l:=by
 unfold bl strN
 simp only[List.map_map]
 have:l.map (UInt8.toNat ∘ UInt8.ofNat)=l.map id:=List.map_congr_left (fun x hx=>by simp[Nat.mod_eq_of_lt (h x hx)])
 simpa using this
theorem cSr(l t:List Nat):Fo.cutSign ((Fo.cutSign l).1++48::t)=((Fo.cutSign l).1,48::t):=by
 cases l with
 |nil=>simp[Fo.cutSign]
 |cons b r =>
  simp only[Fo.cutSign]
  by_cases h:b=43∨b=45
  ·rw[if_pos h];simp[Fo.cutSign,h]
  ·rw[if_neg h];simp[Fo.cutSign]
theorem sr{l a t:List Nat}(ha:a.length≤9)(ht:t.length≤9)(hab:∀ x∈a,x<256)(htb:∀ x∈t,x<256):Small ((Fo.cutSign l).1++48::(a++t)):=by
 unfold Small
 rw[cSr]
 refine⟨by simp only[List.length_cons,List.length_append];omega,fun h=>?_⟩
 simp only[List.all_cons,Bool.and_eq_true]at h
 have h2:=nOb (a++t) 0 (fun x hx=>(List.mem_append.1 hx).elim (hab x) (htb x)) h.2
 have h3:10^(a++t).length≤10^18:=Nat.pow_le_pow_right (by decide) (by rw[List.length_append];omega)
 have:Fo.numOf (48::(a++t))=(a++t).foldl stepD 0:=rfl
 simp only[]
 omega
theorem tl(l:List Nat):(Fo.trim0 l).length≤l.length:=by
 unfold Fo.trim0
 rw[List.length_reverse]
 have:=(List.dropWhile_suffix (l:=l.reverse) fun b=>b==48).length_le
 rwa [List.length_reverse]at this
theorem tm{l:List Nat}{x:Nat}(h:x∈Fo.trim0 l):x∈l:=by
 unfold Fo.trim0 at h
 rw[List.mem_reverse]at h
 have:=(List.dropWhile_suffix (l:=l.reverse) fun b=>b==48).subset h
 rwa [List.mem_reverse]at this
def RealTo(l:List Nat)(w:World)(e:Ending)(w':World):Prop:=match Fo.real l with
 |some (n,p)=>e=.returned (.agg #[.int .i64 3,.int .i64 n,.int .i64 (p:Int),.string { data:=#[] },.slice none 0 0,.slice none 0 0,.slice none 0 0])∧Below w.heap.size w w'
 |none=>e=gU 4∧Below w.heap.size w w'
theorem RealTo.none_{l:List Nat}{w w':World}(h:Fo.real l=none)(b:Below w.heap.size w w'):RealTo l w (gU 4) w':=by
 unfold RealTo;rw[h];exact⟨rfl,b⟩
theorem reo(he:ErrW B w)(hB:B≤w.heap.size)(S:ByteArray)(hS:S.size≤1000000):Calls Tryz.prog 308 #[.string S] w (RealTo (bl S) w):=by
 have HC:=hide (cSo (w:=w.alloc (.cells zero7 67)) S hS)
 have HBY:=hide (blb S)
 have HE:=hide he
 have hln:(bl S).length=S.size:=bll S
 generalize bl S=l at *
 obtain⟨D,hD⟩:∃ D,strN (Fo.cutSign l).2=D:=⟨_,rfl⟩
 have hbD:bl D=(Fo.cutSign l).2:=by rw[←hD];exact bsN _ (fun x hx=>HBY.o x (cSm hx))
 have hDs:D.size≤1000000:=by
  rw[sib,hbD]
  have:(Fo.cutSign l).2.length≤l.length:=by
   unfold Fo.cutSign
   cases l with
   |nil=>exact Nat.le_refl _
   |cons b t=>simp only[];split<;>simp
  omega
 have BW:Hid (Below w.heap.size w (w.alloc (.cells zero7 67))):=(Below.refl _ _).alloc (Nat.le_refl _) _
 have HZ:Hid ((w.alloc (.cells zero7 67)).heap[w.heap.size]?=some (.cells zero7 67 (0,0))):=bln _ _
 generalize hW:w.alloc (.cells zero7 67)=W at *
 have hW':w.alloc (.cells #[.int .i64 0,.int .i64 0,.int .i64 0,.string { data:=#[] },.slice none 0 0,.slice none 0 0,.slice none 0 0] 67)=W:=hW
 have HWW:=hide hW'
 clear he hW hW'
 go_enter Tryz.func308,Tryz.ntmps308
 go_wp2_with fail
 rw[HWW.o]
 refine HC.o.mono ?_
 rintro e w1 ⟨⟨a,b,rfl,ha,hb⟩,m1,rfl⟩
 have hbs:b=.string D:=by rw[←hD];exact hb
 have has:a=.string (strN (Fo.cutSign l).1):=ha
 subst hbs has
 clear ha hb HC hD
 have HE1:Hid (ErrW B (W.drewN m1)):=HE.o.below hB (BW.o.trans ((bdN W m1).mono BW.o.size))
 obtain⟨mx,hmx⟩:=HE1.o.mx
 have HCUT:=hide (Tryz.strings_Cut D { data:=#[46] } mx (W.drewN m1) (by omega) hmx)
 rw[show({ data:=#[46] }:ByteArray).data.toList=[46]from rfl,cut_eq]at HCUT
 have hdw:=mdW 46 D.data.toList
 have htw:=mtW 46 D.data.toList
 rw[show(UInt8.toNat 46)=46 from rfl]at hdw htw
 rw[show D.data.toList.map UInt8.toNat=(Fo.cutSign l).2 from hbD]at hdw htw
 clear hmx
 cases hd:D.data.toList.dropWhile (fun b=>b != 46)with
 |nil =>
  rw[hd]at HCUT hdw
  simp only[]at HCUT
  have HN:Hid (Fo.real l=none):=by unfold Hid Fo.real;rw[←hdw];rfl
  clear hd hdw htw
  go_wp2_with fail
  refine HCUT.o.mono ?_
  rintro e w2 ⟨rfl,m2,rfl⟩
  go_wp2_with fail
  refine(sn _).mono ?_
  rintro e w' ⟨rfl,rfl⟩
  exact⟨rfl,RealTo.none_ HN.o (BW.o.trans ((bdN W _).mono BW.o.size))⟩
 |cons x t =>
  rw[hd]at HCUT hdw
  simp only[]at HCUT
  obtain⟨A,hA⟩:∃ A:ByteArray,⟨(D.data.toList.takeWhile fun b=>b != 46).toArray⟩=A:=⟨_,rfl⟩
  obtain⟨Q,hQ⟩:∃ Q:ByteArray,⟨t.toArray⟩=Q:=⟨_,rfl⟩
  rw[hA,hQ]at HCUT
  have hbA:bl A=(Fo.cutSign l).2.takeWhile fun b=>b != 46:=by rw[←hA,bl_mk];exact htw
  have hbQ:bl Q=t.map UInt8.toNat:=by rw[←hQ,bl_mk]
  have HRE:Hid (Fo.real l=if 1≤max A.size Q.size∧max A.size Q.size≤9 then(Fo.atoi ((Fo.cutSign l).1++48::(bl A++Fo.trim0 (bl Q)))).map fun n=>(n,(Fo.trim0 (bl Q)).length)else none):=by
   unfold Hid Fo.real
   rw[←hdw]
   simp only[List.map_cons]
   rw[sib A,sib Q,hbA,hbQ]
  have HAB:Hid ((∀ x∈bl A,x<256)∧(∀ x∈bl Q,x<256)):=⟨blb A,blb Q⟩
  have hAs:A.size≤1000000:=by
   rw[sib,hbA]
   have:=(List.takeWhile_prefix (l:=(Fo.cutSign l).2) fun b=>b != 46).length_le
   have h2:(Fo.cutSign l).2.length=D.size:=by rw[←hbD,bll]
   omega
  have hQs:Q.size≤1000000:=by
   rw[sib,hbQ]
   have h1:=(List.dropWhile_suffix (l:=(Fo.cutSign l).2) fun b=>b != 46).length_le
   rw[←hdw,←hbD,bll]at h1
   simp only[List.map_cons,List.length_cons,List.length_map]at h1 ⊢;omega
  clear hd hdw htw hA hQ hbD
  have hmax:max (A.size:Int) (Q.size:Int)=((max A.size Q.size:Nat):Int):=by omega
  by_cases hM:1≤max A.size Q.size∧max A.size Q.size≤9
  ·have HTR:=hide (fun W2 => Tryz.strings_TrimRight_one Q 48 (by decide) W2 (by omega))
   obtain⟨Z,hZ⟩:∃ Z:ByteArray,⟨(Lib.trimRightB Q.data.toList 48).toArray⟩=Z:=⟨_,rfl⟩
   rw[hZ]at HTR
   have hbZ:bl Z=Fo.trim0 (bl Q):=by rw[←hZ];exact tre Q
   have hZs:Z.size≤9:=by
    rw[sib,hbZ]
    have:=tl (bl Q)
    rw[bll]at this;omega
   have HSM:Hid (Small ((Fo.cutSign l).1++48::(bl A++bl Z))):=sr (by rw[bll];omega) (by rw[bll];omega) HAB.o.1 (fun x hx=>by rw[hbZ]at hx;exact HAB.o.2 x (tm hx))
   rw[if_pos hM,←hbZ,bll Z]at HRE
   have hsgl:(strN (Fo.cutSign l).1).size≤1:=by
    unfold strN Fo.cutSign
    cases l with
    |nil=>simp[ByteArray.size]
    |cons b t=>simp only[];split<;>simp[ByteArray.size]
   have hbsg:bl (strN (Fo.cutSign l).1)=(Fo.cutSign l).1:=by
    refine bsN _ (fun x hx=>HBY.o x ?_)
    unfold Fo.cutSign at hx
    cases l with
    |nil=>cases hx
    |cons b t =>
     simp only[]at hx
     split at hx
     ·simp at hx;simp[hx]
     ·cases hx
   generalize strN (Fo.cutSign l).1=G at *
   have hX:∃ X:ByteArray,((G++{ data:=#[48] })++A)++Z=X:=⟨_,rfl⟩
   obtain⟨X,hX⟩:=hX
   have hbX:bl X=(Fo.cutSign l).1++48::(bl A++bl Z):=by
    rw[←hX,ba_,ba_,ba_,hbsg,bo]
    simp
   have hXs:X.size≤1000000:=by
    rw[sib,hbX,←hbsg]
    simp only[List.length_append,List.length_cons,bll];omega
   have HAT:=hide (fun m=>ato (HE.o.below hB (BW.o.trans ((bdN W m).mono BW.o.size))) X hXs)
   rw[hbX]at HAT
   have HX:=hide hX
   clear hX hbX hbsg hZ hbZ HAB hbA hbQ
   go_wp2_with fail
   refine HCUT.o.mono ?_
   rintro e w2 ⟨rfl,m2,rfl⟩
   have hM1:(1:Int)≤((max A.size Q.size:Nat):Int):=by omega
   have hM2:((max A.size Q.size:Nat):Int)≤9:=by omega
   clear hM HCUT
   go_wp2_with fail
   refine(wiy _ 1 9 _ hM1 hM2).mono ?_
   rintro e w' ⟨rfl,rfl⟩
   clear hM1 hM2 hmax
   go_wp2_with fail
   refine(smy _).mono ?_
   rintro e w' ⟨rfl,rfl⟩
   go_wp2_with fail
   refine(HTR.o _).mono ?_
   rintro e w' ⟨rfl,rfl⟩
   go_wp2_with fail
   rw[HX.o]
   refine(HAT.o _).mono ?_
   rintro e w3 ⟨⟨n,ev,rfl,hev,hres⟩,b3⟩
   have HRES:=hide (hres HSM.o)
   have B3:=hide (BW.o.trans (((bdN W (m1+m2)).trans b3).mono BW.o.size))
   have hrb:w3.heap[w.heap.size]?=some (.cells zero7 67 (0,0)):=by
    rw[((bdN W (m1+m2)).trans b3).block _ (lt_of_block HZ.o)];exact HZ.o
   clear hres b3 HAT HSM HTR
   rcases hev with rfl | ⟨te,pe,rfl⟩
   ·have HF:Hid (Fo.real l=some (n,Z.size)):=by
     unfold Hid
     rw[HRE.o]
     have:=HRES.o
     unfold AI at this
     cases hat:Fo.atoi ((Fo.cutSign l).1++48::(bl A++bl Z))with
     |some v=>rw[hat]at this;rw[this.1];rfl
     |none=>rw[hat]at this;obtain⟨_,_,h⟩:=this;cases h
    have r0:w3.cell? ⟨w.heap.size,0,none⟩=some (.int .i64 0):=ceb hrb
    have r1:w3.cell? ⟨w.heap.size,1,none⟩=some (.int .i64 0):=ceb hrb
    have r2:w3.cell? ⟨w.heap.size,2,none⟩=some (.int .i64 0):=ceb hrb
    have r3:w3.cell? ⟨w.heap.size,3,none⟩=some (.string { data:=#[] }):=ceb hrb
    have r4:w3.cell? ⟨w.heap.size,4,none⟩=some (.slice none 0 0):=ceb hrb
    have r5:w3.cell? ⟨w.heap.size,5,none⟩=some (.slice none 0 0):=ceb hrb
    have r6:w3.cell? ⟨w.heap.size,6,none⟩=some (.slice none 0 0):=ceb hrb
    have f0:w3.frozen? ⟨w.heap.size,0,none⟩=false:=frb hrb
    have f1:w3.frozen? ⟨w.heap.size,1,none⟩=false:=frb hrb
    have f2:w3.frozen? ⟨w.heap.size,2,none⟩=false:=frb hrb
    have f3:w3.frozen? ⟨w.heap.size,3,none⟩=false:=frb hrb
    have f4:w3.frozen? ⟨w.heap.size,4,none⟩=false:=frb hrb
    have f5:w3.frozen? ⟨w.heap.size,5,none⟩=false:=frb hrb
    have f6:w3.frozen? ⟨w.heap.size,6,none⟩=false:=frb hrb
    have HS:=hide (set7 hrb (.int .i64 3) (.int .i64 n) (.int .i64 (Z.size:Int)) (.string { data:=#[] }) (.slice none 0 0) (.slice none 0 0) (.slice none 0 0))
    have HO:=hide (only7 w3 w.heap.size (.int .i64 3) (.int .i64 n) (.int .i64 (Z.size:Int)) (.string { data:=#[] }) (.slice none 0 0) (.slice none 0 0) (.slice none 0 0))
    clear hrb HRES HRE
    go_wp2_with fail
    refine(smy _).mono ?_
    rintro e w' ⟨rfl,rfl⟩
    go_wp2
    refine bodyPost_ret (v:=.agg #[.int .i64 3,.int .i64 n,.int .i64 (Z.size:Int),.string { data:=#[] },.slice none 0 0,.slice none 0 0,.slice none 0 0]) ?_ rfl ?_
    ·exact results_cell_row Tryz.results308 _ _ w.heap.size 67 _ _ _ rfl HS.o Tryz.underlying67 rfl (by kernel_rfl)
    unfold RealTo
    rw[HF.o]
    refine⟨rfl,B3.o.trans ?_⟩
    have o:=HO.o
    exact⟨o.os,o.tape,o.output,o.size,fun k hk=>o.block k (Nat.lt_of_lt_of_le hk B3.o.size) (by omega)⟩
   ·have HF:Hid (Fo.real l=none):=by
     unfold Hid
     rw[HRE.o]
     have:=HRES.o
     unfold AI at this
     cases hat:Fo.atoi ((Fo.cutSign l).1++48::(bl A++bl Z))with
     |some v=>rw[hat]at this;cases this.2
     |none=>rfl
    clear hrb HRES HRE
    go_wp2_with fail
    refine(sn _).mono ?_
    rintro e w' ⟨rfl,rfl⟩
    exact⟨rfl,RealTo.none_ HF.o B3.o⟩
  ·rw[if_neg hM]at HRE
   have hM1:((max A.size Q.size:Nat):Int)<1∨(9:Int)<((max A.size Q.size:Nat):Int):=by omega
   clear hM
   go_wp2_with fail
   refine HCUT.o.mono ?_
   rintro e w2 ⟨rfl,m2,rfl⟩
   go_wp2_with fail
   refine(win _ 1 9 _ hM1).mono ?_
   rintro e w' ⟨rfl,rfl⟩
   go_wp2_with fail
   refine(sn _).mono ?_
   rintro e w' ⟨rfl,rfl⟩
   exact⟨rfl,RealTo.none_ HRE.o (BW.o.trans ((bdN W _).mono BW.o.size))⟩
end
section
variable{B bs cap k:Nat}{ao:Option Addr}{data:List Nat}{x2 x3 x4:Value}{w w1 w':World}{q r:List Nat}
theorem lf(hs:Sc B bs ao cap data x2 x3 x4 w1 q)(ho:Only bs w w1)(hrb:w1.heap[w.heap.size]?=some (.cells zero7 67 (0,0)))(kind:Nat)(n:Int)(p:Nat)(txt:List Nat)(hlt:bs<w.heap.size) :
  let w2:=((((((w1.setCell ⟨w.heap.size,0,none⟩ (.int .i64 (kind:Int))).setCell ⟨w.heap.size,1,none⟩ (.int .i64 n)).setCell ⟨w.heap.size,2,none⟩ (.int .i64 (p:Int))).setCell ⟨w.heap.size,3,none⟩ (.string (strN txt))).setCell ⟨w.heap.size,4,none⟩ (.slice none 0 0)).setCell ⟨w.heap.size,5,none⟩ (.slice none 0 0)).setCell ⟨w.heap.size,6,none⟩ (.slice none 0 0)
  w2.heap[w.heap.size]?=some (.cells #[.int .i64 (kind:Int),.int .i64 n,.int .i64 (p:Int),.string (strN txt),.slice none 0 0,.slice none 0 0,.slice none 0 0] 67 (0,0)) ∧
   VIn (fun g=>w.heap.size≤g) (k+1) w2 (.agg #[.int .i64 (kind:Int),.int .i64 n,.int .i64 (p:Int),.string (strN txt),.slice none 0 0,.slice none 0 0,.slice none 0 0]) (leafN (VT k) kind n p txt)∧Sc B bs ao cap data x2 x3 x4 w2 q∧Only bs w w2:=by
 have o:=only7 w1 w.heap.size (.int .i64 (kind:Int)) (.int .i64 n) (.int .i64 (p:Int)) (.string (strN txt)) (.slice none 0 0) (.slice none 0 0) (.slice none 0 0)
 have hb:=hs.hb
 have hl:=hs.lt
 have hsz:=ho.size
 refine⟨set7 hrb _ _ _ _ _ _ _,VIn.leaf k kind n p txt,?_,?_⟩
 ·exact⟨hs.hb,by rw[o.block _ hl (by omega)];exact hs.blk,hs.dat.other (fun g hg=>o.block g (by omega) (by omega)),hs.byt,hs.len,hs.lc,hs.le,hs.suf,hs.ad⟩
 ·exact⟨o.os.trans ho.os,o.tape.trans ho.tape,o.output.trans ho.output,Nat.le_trans hsz o.size,fun g h1 h2=>(o.block g (by omega) (by omega)).trans (ho.block g h1 h2)⟩
theorem strC(T:ByteArray)(c:List UInt8):(T.toList==c)=decide (bl T=c.map UInt8.toNat):=by
 rw[Bool.eq_iff_iff,beq_iff_eq,decide_eq_true_iff,ByteArray.toList_eq]
 unfold bl
 constructor
 ·intro h;rw[h]
 ·intro h
  exact(List.map_inj_right (fun a b=>UInt8.toNat_inj.1)).1 h
theorem so_1(he:ErrW B w)(h:Sc B bs ao cap data x2 x3 x4 w r) :
  Calls Tryz.prog 256 #[.pointer (some ⟨bs,0,none⟩)] w (VRes B bs ao cap data x2 x3 x4 (k+1) (Fo.worded (VT k) r) w):=by
 have LT:=hide h.lt
 have BW:Hid (Below w.heap.size w (w.alloc (.cells zero7 67))):=(Below.refl _ _).alloc (Nat.le_refl _) _
 have H0:=hide (h.other BW.o)
 have HZ:Hid ((w.alloc (.cells zero7 67)).heap[w.heap.size]?=some (.cells zero7 67 (0,0))):=bln _ _
 have hBw:B≤w.heap.size:=Nat.le_of_lt (Nat.lt_of_le_of_lt h.hb h.lt)
 have HE:=hide he
 have HBY:=hide h.bytes
 have hrl:r.length≤200000:=Nat.le_trans h.le h.len
 have HW:=hide (swo H0.o)
 obtain⟨R,hR⟩:∃ R,Fo.worded (VT k) r=R:=⟨_,rfl⟩
 rw[hR]
 have HR:=hide hR
 unfold Fo.worded at HR
 have HQ:Hid (∀ x∈Fo.wordOf r,x<256):=fun x hx=>HBY.o x (wOm hx)
 have hwl:(Fo.wordOf r).length≤200000:=by
  have h1:=(List.takeWhile_prefix (l:=Fo.skip r) pB).length_le
  have h2:=Fo.skip_len r
  have:Fo.wordOf r=(Fo.skip r).takeWhile pB:=rfl
  rw[this];omega
 generalize Fo.wordOf r=wd at *
 generalize Fo.wordRest r=q at *
 obtain⟨T,hT⟩:∃ T,strN wd=T:=⟨_,rfl⟩
 have hbT:bl T=wd:=by rw[←hT];exact bsN _ HQ.o
 have hTs:T.size≤1000000:=by rw[sib,hbT];omega
 rw[hT]at HW
 generalize hWW:w.alloc (.cells zero7 67)=W at *
 have HWW:Hid (w.alloc (.cells #[.int .i64 0,.int .i64 0,.int .i64 0,.string { data:=#[] },.slice none 0 0,.slice none 0 0,.slice none 0 0] 67)=W):=hWW
 have hn0:(T.toList==[110,117,108,108])=decide (wd=[110,117,108,108]):=by rw[strC,hbT];rfl
 have hn1:(T.toList==[102,97,108,115,101])=decide (wd=[102,97,108,115,101]):=by rw[strC,hbT];rfl
 have hn2:(T.toList==[116,114,117,101])=decide (wd=[116,114,117,101]):=by rw[strC,hbT];rfl
 have HBT:=hide hbT
 clear he h hR hT hWW hbT
 go_enter Tryz.func256,Tryz.ntmps256
 go_wp2_with fail
 rw[HWW.o]
 refine HW.o.mono ?_
 rintro e w1 ⟨rfl,h1,k1⟩
 have HS:=hide h1
 have HO:Hid (Only bs w w1):=(Only.of_below BW.o).trans k1
 have hrb:w1.heap[w.heap.size]?=some (.cells zero7 67 (0,0)):=by
  rw[k1.block _ (lt_of_block HZ.o) (by have:=LT.o;omega)];exact HZ.o
 have HE1:Hid (ErrW B w1):=HE.o.only HS.o.hb hBw HO.o
 have hBw1:B≤w1.heap.size:=Nat.le_trans hBw HO.o.size
 clear h1 k1 HW
 by_cases c0:wd=[110,117,108,108]
 ·rw[decide_eq_true c0]at hn0
  have HF:Hid (R=some (leafN (VT k) 0 0 0 [],q)):=by unfold Hid;rw[←HR.o,if_pos c0]
  clear c0 HR hn1 hn2
  have r0:w1.cell? ⟨w.heap.size,0,none⟩=some (.int .i64 0):=ceb hrb
  have r1:w1.cell? ⟨w.heap.size,1,none⟩=some (.int .i64 0):=ceb hrb
  have r2:w1.cell? ⟨w.heap.size,2,none⟩=some (.int .i64 0):=ceb hrb
  have r3:w1.cell? ⟨w.heap.size,3,none⟩=some (.string { data:=#[] }):=ceb hrb
  have r4:w1.cell? ⟨w.heap.size,4,none⟩=some (.slice none 0 0):=ceb hrb
  have r5:w1.cell? ⟨w.heap.size,5,none⟩=some (.slice none 0 0):=ceb hrb
  have r6:w1.cell? ⟨w.heap.size,6,none⟩=some (.slice none 0 0):=ceb hrb
  have f0:w1.frozen? ⟨w.heap.size,0,none⟩=false:=frb hrb
  have f1:w1.frozen? ⟨w.heap.size,1,none⟩=false:=frb hrb
  have f2:w1.frozen? ⟨w.heap.size,2,none⟩=false:=frb hrb
  have f3:w1.frozen? ⟨w.heap.size,3,none⟩=false:=frb hrb
  have f4:w1.frozen? ⟨w.heap.size,4,none⟩=false:=frb hrb
  have f5:w1.frozen? ⟨w.heap.size,5,none⟩=false:=frb hrb
  have f6:w1.frozen? ⟨w.heap.size,6,none⟩=false:=frb hrb
  have HL:=hide (lf (k:=k) HS.o HO.o hrb 0 0 0 [] LT.o)
  clear hrb
  go_wp2
  refine bodyPost_ret (v:=.agg #[.int .i64 0,.int .i64 0,.int .i64 (0:Nat),.string (strN []),.slice none 0 0,.slice none 0 0,.slice none 0 0]) ?_ rfl ?_
  ·exact results_cell_row Tryz.results256 _ _ w.heap.size 67 _ _ _ rfl HL.o.1 Tryz.underlying67 rfl (by kernel_rfl)
  exact SRes.some_ (HF.o) HL.o.2.1 HL.o.2.2.1 HL.o.2.2.2
 ·rw[decide_eq_false c0]at hn0
  by_cases c1:wd=[102,97,108,115,101]
  ·rw[decide_eq_true c1]at hn1
   have HF:Hid (R=some (leafN (VT k) 1 0 0 [],q)):=by unfold Hid;rw[←HR.o,if_neg c0,if_pos c1]
   clear c0 c1 HR hn2
   have r0:w1.cell? ⟨w.heap.size,0,none⟩=some (.int .i64 0):=ceb hrb
   have r1:w1.cell? ⟨w.heap.size,1,none⟩=some (.int .i64 0):=ceb hrb
   have r2:w1.cell? ⟨w.heap.size,2,none⟩=some (.int .i64 0):=ceb hrb
   have r3:w1.cell? ⟨w.heap.size,3,none⟩=some (.string { data:=#[] }):=ceb hrb
   have r4:w1.cell? ⟨w.heap.size,4,none⟩=some (.slice none 0 0):=ceb hrb
   have r5:w1.cell? ⟨w.heap.size,5,none⟩=some (.slice none 0 0):=ceb hrb
   have r6:w1.cell? ⟨w.heap.size,6,none⟩=some (.slice none 0 0):=ceb hrb
   have f0:w1.frozen? ⟨w.heap.size,0,none⟩=false:=frb hrb
   have f1:w1.frozen? ⟨w.heap.size,1,none⟩=false:=frb hrb
   have f2:w1.frozen? ⟨w.heap.size,2,none⟩=false:=frb hrb
   have f3:w1.frozen? ⟨w.heap.size,3,none⟩=false:=frb hrb
   have f4:w1.frozen? ⟨w.heap.size,4,none⟩=false:=frb hrb
   have f5:w1.frozen? ⟨w.heap.size,5,none⟩=false:=frb hrb
   have f6:w1.frozen? ⟨w.heap.size,6,none⟩=false:=frb hrb
   have HL:=hide (lf (k:=k) HS.o HO.o hrb 1 0 0 [] LT.o)
   clear hrb
   go_wp2
   refine bodyPost_ret (v:=.agg #[.int .i64 1,.int .i64 0,.int .i64 (0:Nat),.string (strN []),.slice none 0 0,.slice none 0 0,.slice none 0 0]) ?_ rfl ?_
   ·exact results_cell_row Tryz.results256 _ _ w.heap.size 67 _ _ _ rfl HL.o.1 Tryz.underlying67 rfl (by kernel_rfl)
   exact SRes.some_ (HF.o) HL.o.2.1 HL.o.2.2.1 HL.o.2.2.2
  ·rw[decide_eq_false c1]at hn1
   by_cases c2:wd=[116,114,117,101]
   ·rw[decide_eq_true c2]at hn2
    have HF:Hid (R=some (leafN (VT k) 1 1 0 [],q)):=by unfold Hid;rw[←HR.o,if_neg c0,if_neg c1,if_pos c2]
    clear c0 c1 c2 HR
    have r0:w1.cell? ⟨w.heap.size,0,none⟩=some (.int .i64 0):=ceb hrb
    have r1:w1.cell? ⟨w.heap.size,1,none⟩=some (.int .i64 0):=ceb hrb
    have r2:w1.cell? ⟨w.heap.size,2,none⟩=some (.int .i64 0):=ceb hrb
    have r3:w1.cell? ⟨w.heap.size,3,none⟩=some (.string { data:=#[] }):=ceb hrb
    have r4:w1.cell? ⟨w.heap.size,4,none⟩=some (.slice none 0 0):=ceb hrb
    have r5:w1.cell? ⟨w.heap.size,5,none⟩=some (.slice none 0 0):=ceb hrb
    have r6:w1.cell? ⟨w.heap.size,6,none⟩=some (.slice none 0 0):=ceb hrb
    have f0:w1.frozen? ⟨w.heap.size,0,none⟩=false:=frb hrb
    have f1:w1.frozen? ⟨w.heap.size,1,none⟩=false:=frb hrb
    have f2:w1.frozen? ⟨w.heap.size,2,none⟩=false:=frb hrb
    have f3:w1.frozen? ⟨w.heap.size,3,none⟩=false:=frb hrb
    have f4:w1.frozen? ⟨w.heap.size,4,none⟩=false:=frb hrb
    have f5:w1.frozen? ⟨w.heap.size,5,none⟩=false:=frb hrb
    have f6:w1.frozen? ⟨w.heap.size,6,none⟩=false:=frb hrb
    have HL:=hide (lf (k:=k) HS.o HO.o hrb 1 1 0 [] LT.o)
    clear hrb
    go_wp2
    refine bodyPost_ret (v:=.agg #[.int .i64 1,.int .i64 1,.int .i64 (0:Nat),.string (strN []),.slice none 0 0,.slice none 0 0,.slice none 0 0]) ?_ rfl ?_
    ·exact results_cell_row Tryz.results256 _ _ w.heap.size 67 _ _ _ rfl HL.o.1 Tryz.underlying67 rfl (by kernel_rfl)
    exact SRes.some_ (HF.o) HL.o.2.1 HL.o.2.2.1 HL.o.2.2.2
   ·rw[decide_eq_false c2]at hn2
    rw[if_neg c0,if_neg c1,if_neg c2]at HR
    clear c0 c1 c2
    have HWH:=hide (wo_3 HE1.o hBw1 T hTs)
    rw[HBT.o]at HWH
    go_wp2_with fail
    refine HWH.o.mono ?_
    rintro e w2 ⟨⟨n,b,rfl,hwi⟩,b2⟩
    have HS2:=hide (HS.o.other b2)
    have HO2:Hid (Only bs w w2):=HO.o.trans (.of_below b2)
    have hrb2:w2.heap[w.heap.size]?=some (.cells zero7 67 (0,0)):=by rw[b2.block _ (lt_of_block hrb)];exact hrb
    have HE2:Hid (ErrW B w2):=HE1.o.below hBw1 b2
    have hBw2:B≤w2.heap.size:=Nat.le_trans hBw1 b2.size
    clear b2 HWH hrb HS HO
    unfold WholeIs at hwi
    cases hwh:Fo.whole wd with
    |some v =>
     rw[hwh]at hwi HR
     simp only[]at hwi HR
     obtain⟨rfl,rfl⟩:=hwi
     have HT:=hide (sRo HS2.o)
     cases htr:Fo.takesRef q with
     |some q2 =>
      rw[htr]at HT HR
      simp only[]at HR
      have HF:Hid (R=some (leafN (VT k) 9 n 0 [],q2)):=HR.o.symm
      clear HR htr hwh
      go_wp2_with fail
      refine HT.o.mono ?_
      rintro e w3 ⟨rfl,h3,k3⟩
      have HS:=hide (show Sc B bs ao cap data x2 x3 x4 w3 q2 from h3)
      have HO:=hide (HO2.o.trans k3)
      have hrb:w3.heap[w.heap.size]?=some (.cells zero7 67 (0,0)):=by rw[k3.block _ (lt_of_block hrb2) (by have:=LT.o;omega)];exact hrb2
      clear h3 k3 HT hrb2
      have r0:w3.cell? ⟨w.heap.size,0,none⟩=some (.int .i64 0):=ceb hrb
      have r1:w3.cell? ⟨w.heap.size,1,none⟩=some (.int .i64 0):=ceb hrb
      have r2:w3.cell? ⟨w.heap.size,2,none⟩=some (.int .i64 0):=ceb hrb
      have r3:w3.cell? ⟨w.heap.size,3,none⟩=some (.string { data:=#[] }):=ceb hrb
      have r4:w3.cell? ⟨w.heap.size,4,none⟩=some (.slice none 0 0):=ceb hrb
      have r5:w3.cell? ⟨w.heap.size,5,none⟩=some (.slice none 0 0):=ceb hrb
      have r6:w3.cell? ⟨w.heap.size,6,none⟩=some (.slice none 0 0):=ceb hrb
      have f0:w3.frozen? ⟨w.heap.size,0,none⟩=false:=frb hrb
      have f1:w3.frozen? ⟨w.heap.size,1,none⟩=false:=frb hrb
      have f2:w3.frozen? ⟨w.heap.size,2,none⟩=false:=frb hrb
      have f3:w3.frozen? ⟨w.heap.size,3,none⟩=false:=frb hrb
      have f4:w3.frozen? ⟨w.heap.size,4,none⟩=false:=frb hrb
      have f5:w3.frozen? ⟨w.heap.size,5,none⟩=false:=frb hrb
      have f6:w3.frozen? ⟨w.heap.size,6,none⟩=false:=frb hrb
      have HL:=hide (lf (k:=k) HS.o HO.o hrb 9 n 0 [] LT.o)
      clear hrb
      go_wp2
      refine bodyPost_ret (v:=.agg #[.int .i64 9,.int .i64 n,.int .i64 (0:Nat),.string (strN []),.slice none 0 0,.slice none 0 0,.slice none 0 0]) ?_ rfl ?_
      ·exact results_cell_row Tryz.results256 _ _ w.heap.size 67 _ _ _ rfl HL.o.1 Tryz.underlying67 rfl (by kernel_rfl)
      exact SRes.some_ (HF.o) HL.o.2.1 HL.o.2.2.1 HL.o.2.2.2
     |none =>
      rw[htr]at HT HR
      simp only[]at HR
      have HF:Hid (R=some (leafN (VT k) 2 n 0 [],q)):=HR.o.symm
      clear HR htr hwh
      go_wp2_with fail
      refine HT.o.mono ?_
      rintro e w3 ⟨rfl,h3,k3⟩
      have HS:=hide (show Sc B bs ao cap data x2 x3 x4 w3 q from h3)
      have HO:=hide (HO2.o.trans k3)
      have hrb:w3.heap[w.heap.size]?=some (.cells zero7 67 (0,0)):=by rw[k3.block _ (lt_of_block hrb2) (by have:=LT.o;omega)];exact hrb2
      clear h3 k3 HT hrb2
      have r0:w3.cell? ⟨w.heap.size,0,none⟩=some (.int .i64 0):=ceb hrb
      have r1:w3.cell? ⟨w.heap.size,1,none⟩=some (.int .i64 0):=ceb hrb
      have r2:w3.cell? ⟨w.heap.size,2,none⟩=some (.int .i64 0):=ceb hrb
      have r3:w3.cell? ⟨w.heap.size,3,none⟩=some (.string { data:=#[] }):=ceb hrb
      have r4:w3.cell? ⟨w.heap.size,4,none⟩=some (.slice none 0 0):=ceb hrb
      have r5:w3.cell? ⟨w.heap.size,5,none⟩=some (.slice none 0 0):=ceb hrb
      have r6:w3.cell? ⟨w.heap.size,6,none⟩=some (.slice none 0 0):=ceb hrb
      have f0:w3.frozen? ⟨w.heap.size,0,none⟩=false:=frb hrb
      have f1:w3.frozen? ⟨w.heap.size,1,none⟩=false:=frb hrb
      have f2:w3.frozen? ⟨w.heap.size,2,none⟩=false:=frb hrb
      have f3:w3.frozen? ⟨w.heap.size,3,none⟩=false:=frb hrb
      have f4:w3.frozen? ⟨w.heap.size,4,none⟩=false:=frb hrb
      have f5:w3.frozen? ⟨w.heap.size,5,none⟩=false:=frb hrb
      have f6:w3.frozen? ⟨w.heap.size,6,none⟩=false:=frb hrb
      have HL:=hide (lf (k:=k) HS.o HO.o hrb 2 n 0 [] LT.o)
      clear hrb
      go_wp2
      refine bodyPost_ret (v:=.agg #[.int .i64 2,.int .i64 n,.int .i64 (0:Nat),.string (strN []),.slice none 0 0,.slice none 0 0,.slice none 0 0]) ?_ rfl ?_
      ·exact results_cell_row Tryz.results256 _ _ w.heap.size 67 _ _ _ rfl HL.o.1 Tryz.underlying67 rfl (by kernel_rfl)
      exact SRes.some_ (HF.o) HL.o.2.1 HL.o.2.2.1 HL.o.2.2.2
    |none =>
     rw[hwh]at hwi HR
     simp only[]at hwi HR
     subst hwi
     have HRL:=hide (reo HE2.o hBw2 T hTs)
     rw[HBT.o]at HRL
     unfold RealTo at HRL
     cases hre:Fo.real wd with
     |none =>
      rw[hre]at HRL HR
      simp only[]at HRL HR
      have HF:Hid (R=none):=HR.o.symm
      clear HR hre hwh
      go_wp2_with fail
      refine HRL.o.mono ?_
      rintro e w3 ⟨rfl,b3⟩
      exact⟨rfl,SRes.none_ HF.o (HO2.o.trans (.of_below b3))⟩
     |some x =>
      obtain⟨n2,p2⟩:=x
      rw[hre]at HRL HR
      simp only[]at HRL HR
      have HF:Hid (R=some (leafN (VT k) 3 n2 p2 [],q)):=HR.o.symm
      clear HR hre hwh
      go_wp2_with fail
      refine HRL.o.mono ?_
      rintro e w3 ⟨rfl,b3⟩
      have HS:=hide (HS2.o.other b3)
      have HO:Hid (Only bs w w3):=HO2.o.trans (.of_below b3)
      have hrb:w3.heap[w.heap.size]?=some (.cells zero7 67 (0,0)):=by rw[b3.block _ (lt_of_block hrb2)];exact hrb2
      clear b3 HRL hrb2
      have r0:w3.cell? ⟨w.heap.size,0,none⟩=some (.int .i64 0):=ceb hrb
      have r1:w3.cell? ⟨w.heap.size,1,none⟩=some (.int .i64 0):=ceb hrb
      have r2:w3.cell? ⟨w.heap.size,2,none⟩=some (.int .i64 0):=ceb hrb
      have r3:w3.cell? ⟨w.heap.size,3,none⟩=some (.string { data:=#[] }):=ceb hrb
      have r4:w3.cell? ⟨w.heap.size,4,none⟩=some (.slice none 0 0):=ceb hrb
      have r5:w3.cell? ⟨w.heap.size,5,none⟩=some (.slice none 0 0):=ceb hrb
      have r6:w3.cell? ⟨w.heap.size,6,none⟩=some (.slice none 0 0):=ceb hrb
      have f0:w3.frozen? ⟨w.heap.size,0,none⟩=false:=frb hrb
      have f1:w3.frozen? ⟨w.heap.size,1,none⟩=false:=frb hrb
      have f2:w3.frozen? ⟨w.heap.size,2,none⟩=false:=frb hrb
      have f3:w3.frozen? ⟨w.heap.size,3,none⟩=false:=frb hrb
      have f4:w3.frozen? ⟨w.heap.size,4,none⟩=false:=frb hrb
      have f5:w3.frozen? ⟨w.heap.size,5,none⟩=false:=frb hrb
      have f6:w3.frozen? ⟨w.heap.size,6,none⟩=false:=frb hrb
      have HL:=hide (lf (k:=k) HS.o HO.o hrb 3 n2 p2 [] LT.o)
      clear hrb
      go_wp2
      refine bodyPost_ret (v:=.agg #[.int .i64 3,.int .i64 n2,.int .i64 (p2:Nat),.string (strN []),.slice none 0 0,.slice none 0 0,.slice none 0 0]) ?_ rfl ?_
      ·exact results_cell_row Tryz.results256 _ _ w.heap.size 67 _ _ _ rfl HL.o.1 Tryz.underlying67 rfl (by kernel_rfl)
      exact SRes.some_ (HF.o) HL.o.2.1 HL.o.2.2.1 HL.o.2.2.2
end
end Go.Proofs.YtgkljcmjnphpeaaGreatDoor
