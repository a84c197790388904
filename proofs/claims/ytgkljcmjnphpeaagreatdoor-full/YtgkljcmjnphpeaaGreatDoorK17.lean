import Derived.Test.YtgkljcmjnphpeaaGreatDoorK16
set_option linter.unusedVariables false
set_option linter.unusedSimpArgs false
set_option maxHeartbeats 4000000
set_option maxRecDepth 100000
namespace Go.Proofs.YtgkljcmjnphpeaaGreatDoor
open Go.RowKit
section
variable{B bs cap:Nat}{ao:Option Addr}{data:List Nat}{x2 x3 x4:Value}{w w':World}{q r:List Nat}
theorem Taken.only{l:List Nat}{v:Value}(h:Taken w B l v)(o:Only bs w w')(hb:B≤bs)(hw:B≤w.heap.size):Taken w' B l v:=by
 obtain⟨bd,off,c,e,h1,h2,h3,h4⟩:=h
 refine⟨bd,off,c,e,h1,h2,h3,fun i hi=>?_⟩
 exact ces (h4 i hi) (o.block _ (by show bd<_;omega) (by show bd≠bs;omega))
theorem VIn.only{P:Nat→Prop}{k:Nat}{v:Value}{V:VT k}(h:VIn P k w v V)(hP:∀ g,P g→g≠bs)(o:Only bs w w'):VIn P k w' v V:=
 VIn.keep k h (fun g hg hg2=>o.block g hg2 (hP g hg))
def strmV(B:Nat)(P:Nat→Prop)(k:Nat)(w:World)(x:Node (VT k) × List Nat)(v:Value):Prop:=
 ∃ sv pv,v=.tuple #[sv,pv]∧VIn P (k+1) w sv x.1∧Taken w B x.2 pv
theorem rcrt{fn:Func}{p u:Tmp}{ty:TypeId}(h:fn.results=#[.cell p ty,.tmp u])(tmps:Array Value)(w:World)(g:Nat)(cs:Array Value)
  (hp:tmps.getD p undef=.pointer (some ⟨g,0,none⟩)) (hl:(loadVar ty ⟨g,0,none⟩).run Tryz.prog w=.ok (.agg cs) w) :
  (results fn tmps).run Tryz.prog w=.ok (.tuple #[.agg cs,tmps.getD u undef]) w:=by
 rw[results_cell_tmp h,hp]
 simp[asAddr,hl]
theorem so2{P:Nat→Prop}{k:Nat}{v:Value}{V:Node (VT k)}(h:Sc B bs ao cap data x2 x3 x4 w r)(hv:VIn P (k+1) w v V)(hP:∀ g,P g→g≠bs)(hl:V.keys.length=V.items.length)(hfew:Few (k:=k+1) V) :
  Calls Tryz.prog 193 #[.pointer (some ⟨bs,0,none⟩),v] w (SRes B bs ao cap data x2 x3 x4 (strmV B (fun g=>P g∨w.heap.size≤g) k) (Fo.stream V r) w):=by
 obtain⟨k0,k1,k2,k3,ja,jl,jc,ka2,kl,kc2,fa2,fl,fc2,hxf⟩:=VIn.form hv
 have hBw:=h.env
 have hlt:=h.lt
 have HB:=hide h.hb
 have HP:=hide hP
 have HL:=hide hl
 have HFW:=hide hfew
 obtain⟨R,hR⟩:∃ R,Fo.stream V r=R:=⟨_,rfl⟩
 rw[hR]
 have HR:=hide hR
 unfold Fo.stream at HR
 have HI:Hid (∀ W:World,Only bs w W→Calls Tryz.prog 198 #[v,.string { data:=#[76,101,110,103,116,104] },.int .i64 2] W (OneRes P k (Fo.itemOf { data:=#[76,101,110,103,116,104] } 2 V) W)):=
  fun W o=>iOo (VIn.only hv hP o) hl hfew.1 { data:=#[76,101,110,103,116,104] } 2
 have HSO:Hid (∀ W:World,Only bs w W→Calls Tryz.prog 259 #[v] W (OptRes (fun g=>(P g∧g<w.heap.size)∨W.heap.size≤g) (k+1) (Fo.streamOf V) W)):=
  fun W o=>sOo (VIn.only (VIn.mono (Q:=fun g=>P g∧g<w.heap.size) (k+1) hv (fun g h1 h2=>⟨h1,h2⟩)) (fun g hg=>hP g hg.1) o) hl hfew
 subst hxf
 have b2:Below w.heap.size w ((w.alloc (.cells #[.int .i64 k0,.int .i64 k1,.int .i64 k2,.string k3,.slice ja jl jc,.slice ka2 kl kc2,.slice fa2 fl fc2] 67)).alloc (.cells zero7 67)):=((Below.refl _ _).alloc (Nat.le_refl _) _).alloc (by simp) _
 have hbx:((w.alloc (.cells #[.int .i64 k0,.int .i64 k1,.int .i64 k2,.string k3,.slice ja jl jc,.slice ka2 kl kc2,.slice fa2 fl fc2] 67)).alloc (.cells zero7 67)).heap[w.heap.size]?=some (.cells #[.int .i64 k0,.int .i64 k1,.int .i64 k2,.string k3,.slice ja jl jc,.slice ka2 kl kc2,.slice fa2 fl fc2] 67 (0,0)):=bla _ (bln _ _)
 have hrx:((w.alloc (.cells #[.int .i64 k0,.int .i64 k1,.int .i64 k2,.string k3,.slice ja jl jc,.slice ka2 kl kc2,.slice fa2 fl fc2] 67)).alloc (.cells zero7 67)).heap[w.heap.size+1]?=some (.cells zero7 67 (0,0)):=by
  have:=bln (w.alloc (.cells #[.int .i64 k0,.int .i64 k1,.int .i64 k2,.string k3,.slice ja jl jc,.slice ka2 kl kc2,.slice fa2 fl fc2] 67)) (.cells zero7 67)
  simpa using this
 obtain⟨w2,hw2⟩:∃ w2,(w.alloc (.cells #[.int .i64 k0,.int .i64 k1,.int .i64 k2,.string k3,.slice ja jl jc,.slice ka2 kl kc2,.slice fa2 fl fc2] 67)).alloc (.cells zero7 67)=w2:=⟨_,rfl⟩
 have hw2':=hw2
 unfold zero7 at hw2'
 rw[hw2]at b2 hbx hrx
 have H1:=hide (sto (h.other b2) { data:=#[10] } (by decide) (by decide))
 rw[show bl { data:=#[10] }=[10]from rfl]at H1
 have KW:=hide (Only.of_below (b:=bs) b2)
 have HBX:=hide hbx
 have HRX:=hide hrx
 have HW2:=hide hw2'
 clear h hv hP hl hfew hR b2 hbx hrx hw2 hw2'
 cases e1:Fo.takes [10] r with
 |some q =>
  rw[e1]at H1 HR
  simp only[Option.some_or]at HR
  go_enter Tryz.func193,Tryz.ntmps193
  go_wp2_with fail
  rw[HW2.o]
  refine H1.o.mono ?_
  rintro e w3 ⟨rfl,h1,o1⟩
  have HS3:=hide (show Sc B bs ao cap data x2 x3 x4 w3 q from h1)
  have HBX2:=HBX
  have HRX2:=HRX
  have K2:=KW
  have HBX3:Hid (w3.heap[w.heap.size]?=some (.cells #[.int .i64 k0,.int .i64 k1,.int .i64 k2,.string k3,.slice ja jl jc,.slice ka2 kl kc2,.slice fa2 fl fc2] 67 (0,0))):=by unfold Hid;rw[o1.block _ (lt_of_block HBX2.o) (by omega)];exact HBX2.o
  have HRX3:Hid (w3.heap[w.heap.size+1]?=some (.cells zero7 67 (0,0))):=by unfold Hid;rw[o1.block _ (lt_of_block HRX2.o) (by omega)];exact HRX2.o
  have K3:=hide (K2.o.trans o1)
  clear h1 o1 HBX HRX KW
  go_wp2_with fail
  refine(smy _).mono ?_
  rintro e w' ⟨rfl,hw⟩
  have hw:=hw.symm
  subst hw
  have HI3:=hide (HI.o w3 K3.o)
  have d0:w3.cell? ⟨w.heap.size,0,none⟩=some (.int .i64 k0):=ceb HBX3.o
  have d1:w3.cell? ⟨w.heap.size,1,none⟩=some (.int .i64 k1):=ceb HBX3.o
  have d2:w3.cell? ⟨w.heap.size,2,none⟩=some (.int .i64 k2):=ceb HBX3.o
  have d3:w3.cell? ⟨w.heap.size,3,none⟩=some (.string k3):=ceb HBX3.o
  have d4:w3.cell? ⟨w.heap.size,4,none⟩=some (.slice ja jl jc):=ceb HBX3.o
  have d5:w3.cell? ⟨w.heap.size,5,none⟩=some (.slice ka2 kl kc2):=ceb HBX3.o
  have d6:w3.cell? ⟨w.heap.size,6,none⟩=some (.slice fa2 fl fc2):=ceb HBX3.o
  clear HI H1
  go_wp2_with fail
  refine HI3.o.mono ?_
  rintro e w4 ⟨b4,h4⟩
  cases e4:Fo.itemOf { data:=#[76,101,110,103,116,104] } 2 V with
  |none =>
   rw[e4]at h4 HR
   simp only[]at h4
   subst h4
   exact⟨rfl,.none_ HR.o.symm (K3.o.trans (.of_below b4))⟩
  |some y =>
   rw[e4]at h4 HR
   obtain⟨x,rfl,hx4⟩:=h4
   simp only[]at HR
   obtain⟨py,ya,yl,yc,ya2,yl2,yc2,ya3,yl3,yc3,rfl⟩:=VIn.form2 hx4
   have o4:Only bs w3 w4:=.of_below b4
   have HBX4:Hid (w4.heap[w.heap.size]?=some (.cells #[.int .i64 k0,.int .i64 k1,.int .i64 k2,.string k3,.slice ja jl jc,.slice ka2 kl kc2,.slice fa2 fl fc2] 67 (0,0))):=by unfold Hid;rw[o4.block _ (lt_of_block HBX3.o) (by omega)];exact HBX3.o
   have HRX4:Hid (w4.heap[w.heap.size+1]?=some (.cells zero7 67 (0,0))):=by unfold Hid;rw[o4.block _ (lt_of_block HRX3.o) (by omega)];exact HRX3.o
   have K4:=hide (K3.o.trans o4)
   have HS4:=hide (HS3.o.other b4)
   clear hx4 b4 o4 HI3 e4 d0 d1 d2 d3 d4 d5 d6 HS3
   generalize strN (tO y)=ty
   generalize (kO y:Int)=ky
   generalize hny:nOf y=ny at *
   clear hny
   have hfl:=rfN (.int .i64 ky) (.int .i64 py) (.string ty) (.slice ya yl yc) (.slice ya2 yl2 yc2) (.slice ya3 yl3 yc3) ny
   by_cases hn:0≤ny∧ny≤(q.length:Int)
   ·rw[if_pos hn]at HR
    obtain⟨n,rfl⟩:∃ n:Nat,ny=(n:Int):=⟨ny.toNat,by omega⟩
    have hnq:n≤q.length:=by omega
    rw[Int.toNat_natCast]at HR
    have HT:=hide (so_0 HS4.o n hnq)
    clear hn
    go_wp2_with fail
    refine HT.o.mono ?_
    rintro e w5 ⟨pv,rfl,ht5,h5,o5⟩
    have HBX5:Hid (w5.heap[w.heap.size]?=some (.cells #[.int .i64 k0,.int .i64 k1,.int .i64 k2,.string k3,.slice ja jl jc,.slice ka2 kl kc2,.slice fa2 fl fc2] 67 (0,0))):=by unfold Hid;rw[o5.block _ (lt_of_block HBX4.o) (by omega)];exact HBX4.o
    have HRX5:Hid (w5.heap[w.heap.size+1]?=some (.cells zero7 67 (0,0))):=by unfold Hid;rw[o5.block _ (lt_of_block HRX4.o) (by omega)];exact HRX4.o
    have K5:=hide (K4.o.trans o5)
    have HTK:=hide ht5
    have HS5:=hide h5
    have H6:=hide (sto h5 { data:=#[10] } (by decide) (by decide))
    rw[show bl { data:=#[10] }=[10]from rfl]at H6
    have hB5:=h5.env
    obtain⟨bd5,of5,c5,rfl,_⟩:=ht5
    generalize (q.take n).length=ln at *
    clear h5 o5 HT HS4 hfl
    cases e6:Fo.takes [10] (q.drop n)with
    |none =>
     rw[e6]at H6 HR
     go_wp2_with fail
     refine H6.o.mono ?_
     rintro e w6 ⟨rfl,h6,o6⟩
     have K6:=hide (K5.o.trans o6)
     clear h6 o6
     go_wp2_with fail
     refine(sn _).mono ?_
     rintro e w' ⟨rfl,hw⟩
     have hw:=hw.symm
     subst hw
     exact⟨rfl,.none_ HR.o.symm K6.o⟩
    |some t =>
     rw[e6]at H6 HR
     simp only[]at HR
     go_wp2_with fail
     refine H6.o.mono ?_
     rintro e w6 ⟨rfl,h6,o6⟩
     have HBX6:Hid (w6.heap[w.heap.size]?=some (.cells #[.int .i64 k0,.int .i64 k1,.int .i64 k2,.string k3,.slice ja jl jc,.slice ka2 kl kc2,.slice fa2 fl fc2] 67 (0,0))):=by unfold Hid;rw[o6.block _ (lt_of_block HBX5.o) (by omega)];exact HBX5.o
     have HRX6:Hid (w6.heap[w.heap.size+1]?=some (.cells zero7 67 (0,0))):=by unfold Hid;rw[o6.block _ (lt_of_block HRX5.o) (by omega)];exact HRX5.o
     have K6:=hide (K5.o.trans o6)
     have HTK6:=hide (HTK.o.only o6 HB.o hB5)
     have H7:=hide (spo (show Sc B bs ao cap data x2 x3 x4 w6 t from h6))
     have hB6:=h6.env
     have HBY:Hid (∀ x∈t,x<256):=fun x hx=>(show Sc B bs ao cap data x2 x3 x4 w6 t from h6).bytes x hx
     clear h6 o6 H6 HTK HS5 e6
     have hw6:w.heap.size+1<w6.heap.size:=lt_of_block HRX6.o
     by_cases he:t.takeWhile pB=[101,110,100,115,116,114,101,97,109]
     ·rw[if_pos he]at HR
      rw[he,show strN [101,110,100,115,116,114,101,97,109]={ data:=#[101,110,100,115,116,114,101,97,109] }from rfl]at H7
      go_wp2_with fail
      refine H7.o.mono ?_
      rintro e w7 ⟨rfl,h7,o7⟩
      have HBX7:Hid (w7.heap[w.heap.size]?=some (.cells #[.int .i64 k0,.int .i64 k1,.int .i64 k2,.string k3,.slice ja jl jc,.slice ka2 kl kc2,.slice fa2 fl fc2] 67 (0,0))):=by unfold Hid;rw[o7.block _ (lt_of_block HBX6.o) (by omega)];exact HBX6.o
      have HRX7:Hid (w7.heap[w.heap.size+1]?=some (.cells zero7 67 (0,0))):=by unfold Hid;rw[o7.block _ (lt_of_block HRX6.o) (by omega)];exact HRX6.o
      have K7:=hide (K6.o.trans o7)
      have HTK7:=hide (HTK6.o.only o7 HB.o hB6)
      have HS7:=hide h7
      have hB7:=h7.env
      clear h7 o7 H7 HTK6 he
      go_wp2_with fail
      refine(smy _).mono ?_
      rintro e w' ⟨rfl,hw⟩
      have hw:=hw.symm
      subst hw
      have d0:w7.cell? ⟨w.heap.size,0,none⟩=some (.int .i64 k0):=ceb HBX7.o
      have d1:w7.cell? ⟨w.heap.size,1,none⟩=some (.int .i64 k1):=ceb HBX7.o
      have d2:w7.cell? ⟨w.heap.size,2,none⟩=some (.int .i64 k2):=ceb HBX7.o
      have d3:w7.cell? ⟨w.heap.size,3,none⟩=some (.string k3):=ceb HBX7.o
      have d4:w7.cell? ⟨w.heap.size,4,none⟩=some (.slice ja jl jc):=ceb HBX7.o
      have d5:w7.cell? ⟨w.heap.size,5,none⟩=some (.slice ka2 kl kc2):=ceb HBX7.o
      have d6:w7.cell? ⟨w.heap.size,6,none⟩=some (.slice fa2 fl fc2):=ceb HBX7.o
      have HSO7:=hide (HSO.o w7 K7.o)
      clear HSO
      cases e8:Fo.streamOf V with
      |none =>
       rw[e8]at HSO7 HR
       go_wp2_with fail
       refine HSO7.o.mono ?_
       rintro e w8 ⟨b8,h8⟩
       simp only[]at h8
       subst h8
       exact⟨rfl,.none_ HR.o.symm (K7.o.trans (.of_below b8))⟩
      |some S =>
       rw[e8]at HSO7 HR
       simp only[]at HR
       go_wp2_with fail
       refine HSO7.o.mono ?_
       rintro e w8 ⟨b8,sv,rfl,hs8⟩
       have o8:Only bs w7 w8:=.of_below b8
       have HBX8:Hid (w8.heap[w.heap.size]?=some (.cells #[.int .i64 k0,.int .i64 k1,.int .i64 k2,.string k3,.slice ja jl jc,.slice ka2 kl kc2,.slice fa2 fl fc2] 67 (0,0))):=by unfold Hid;rw[o8.block _ (lt_of_block HBX7.o) (by omega)];exact HBX7.o
       have HRX8:Hid (w8.heap[w.heap.size+1]?=some (.cells zero7 67 (0,0))):=by unfold Hid;rw[o8.block _ (lt_of_block HRX7.o) (by omega)];exact HRX7.o
       have K8:=hide (K7.o.trans o8)
       have HTK8:=hide (HTK7.o.only o8 HB.o hB7)
       have HS8:=hide (HS7.o.other b8)
       have HV8:=hide hs8
       have hsz7:=K7.o.size
       have hb8:=lt_of_block HRX7.o
       obtain⟨z0,z1,z2,z3,za,zl,zc,za2,zl2,zc2,za3,zl3,zc3,rfl⟩:=VIn.form hs8
       have hrx:=HRX8.o
       unfold zero7 at hrx
       have r0:w8.cell? ⟨w.heap.size+1,0,none⟩=some (.int .i64 0):=ceb hrx
       have f0:w8.frozen? ⟨w.heap.size+1,0,none⟩=false:=frb hrx
       have r1:w8.cell? ⟨w.heap.size+1,1,none⟩=some (.int .i64 0):=ceb hrx
       have f1:w8.frozen? ⟨w.heap.size+1,1,none⟩=false:=frb hrx
       have r2:w8.cell? ⟨w.heap.size+1,2,none⟩=some (.int .i64 0):=ceb hrx
       have f2:w8.frozen? ⟨w.heap.size+1,2,none⟩=false:=frb hrx
       have r3:w8.cell? ⟨w.heap.size+1,3,none⟩=some (.string { data:=#[] }):=ceb hrx
       have f3:w8.frozen? ⟨w.heap.size+1,3,none⟩=false:=frb hrx
       have r4:w8.cell? ⟨w.heap.size+1,4,none⟩=some (.slice none 0 0):=ceb hrx
       have f4:w8.frozen? ⟨w.heap.size+1,4,none⟩=false:=frb hrx
       have r5:w8.cell? ⟨w.heap.size+1,5,none⟩=some (.slice none 0 0):=ceb hrx
       have f5:w8.frozen? ⟨w.heap.size+1,5,none⟩=false:=frb hrx
       have r6:w8.cell? ⟨w.heap.size+1,6,none⟩=some (.slice none 0 0):=ceb hrx
       have f6:w8.frozen? ⟨w.heap.size+1,6,none⟩=false:=frb hrx
       clear hs8 b8 o8 HSO7 HTK7 HS7 d0 d1 d2 d3 d4 d5 d6 hrx e8 HBX7 HBX8 HBX6 HBX5 HBX4 HBX3 HRX7 HRX6 HRX5 HRX4 HRX3
       go_wp2
       have hf:=set7 HRX8.o (.int .i64 z0) (.int .i64 z1) (.int .i64 z2) (.string z3) (.slice za zl zc) (.slice za2 zl2 zc2) (.slice za3 zl3 zc3)
       have ho:=only7 w8 (w.heap.size+1) (.int .i64 z0) (.int .i64 z1) (.int .i64 z2) (.string z3) (.slice za zl zc) (.slice za2 zl2 zc2) (.slice za3 zl3 zc3)
       refine bodyPost_ret (v:=.tuple #[.agg #[.int .i64 z0,.int .i64 z1,.int .i64 z2,.string z3,.slice za zl zc,.slice za2 zl2 zc2,.slice za3 zl3 zc3],.slice (some ⟨bd5,of5,none⟩) ln c5]) ?_ rfl ?_
       ·exact rcrt Tryz.results193 _ _ (w.heap.size+1) _ rfl (run_loadVar_row _ (w.heap.size+1) 67 67 _ _ _ hf Tryz.underlying67 rfl (by kernel_rfl))
       have hlow:∀ g,g≠w.heap.size+1→g<w8.heap.size→_:=fun g h1 h2=>ho.block g h2 h1
       refine .some_ HR.o.symm ⟨_,_,rfl,?_,?_⟩ ?_ ?_
       ·exact VIn.mono (k+1) (VIn.keep (P:=fun g=>(P g∧g<w.heap.size)∨w7.heap.size≤g) (k+1) HV8.o (fun g hg hg2=>hlow g (by rcases hg with hg | hg<;>omega) hg2)) (fun g hg _=>by rcases hg with hg | hg;exact Or.inl hg.1;exact Or.inr (by omega))
       ·exact HTK8.o.only ho (by have:=HB.o;omega) (by have:=K8.o.size;omega)
       ·have h:=HS8.o
        have hsz:=K8.o.size
        have hBb:=HB.o
        exact⟨h.hb,by rw[hlow _ (by omega) (by omega)];exact h.blk,h.dat.other (fun g hg=>hlow g (by omega) (by omega)),h.byt,h.len,h.lc,h.le,h.suf,h.ad⟩
       ·have hsz:=K8.o.size
        exact⟨ho.os.trans K8.o.os,ho.tape.trans K8.o.tape,ho.output.trans K8.o.output,Nat.le_trans hsz ho.size,fun g h1 h2=>(hlow g (by omega) (by omega)).trans (K8.o.block g h1 h2)⟩
     ·rw[if_neg he]at HR
      have t1:((strN (t.takeWhile pB)).toList==[101,110,100,115,116,114,101,97,109])=false:=by
       rw[strK,decide_eq_false_iff_not]
       intro e
       refine he (sNi (fun x hx=>HBY.o x ((List.takeWhile_prefix pB).subset hx)) (by decide) (e.trans rfl))
      generalize strN (t.takeWhile pB)=S at *
      clear he
      go_wp2_with fail
      refine H7.o.mono ?_
      rintro e w7 ⟨rfl,h7,o7⟩
      have K7:=hide (K6.o.trans o7)
      clear h7 o7 H7
      go_wp2_with fail
      refine(sn _).mono ?_
      rintro e w' ⟨rfl,hw⟩
      have hw:=hw.symm
      subst hw
      exact⟨rfl,.none_ HR.o.symm K7.o⟩
   ·rw[if_neg hn]at HR
    have HT:=hide (stn HS4.o ny (by omega))
    go_wp2_with fail
    refine HT.o.mono ?_
    rintro e w5 ⟨rfl,m5,hw5⟩
    exact⟨rfl,.none_ HR.o.symm (K4.o.trans (.of_below (by rw[hw5];exact bdN _ _)))⟩
 |none =>
  rw[e1]at H1 HR
  simp only[Option.none_or]at HR
  go_enter Tryz.func193,Tryz.ntmps193
  go_wp2_with fail
  rw[HW2.o]
  refine H1.o.mono ?_
  rintro e w9 ⟨rfl,h1,o9⟩
  have H2:=hide (sto (show Sc B bs ao cap data x2 x3 x4 w9 r from h1) { data:=#[13,10] } (by decide) (by decide))
  rw[show bl { data:=#[13,10] }=[13,10]from rfl]at H2
  have K9:=hide (KW.o.trans o9)
  have HBX2:Hid (w9.heap[w.heap.size]?=some (.cells #[.int .i64 k0,.int .i64 k1,.int .i64 k2,.string k3,.slice ja jl jc,.slice ka2 kl kc2,.slice fa2 fl fc2] 67 (0,0))):=by unfold Hid;rw[o9.block _ (lt_of_block HBX.o) (by omega)];exact HBX.o
  have HRX2:Hid (w9.heap[w.heap.size+1]?=some (.cells zero7 67 (0,0))):=by unfold Hid;rw[o9.block _ (lt_of_block HRX.o) (by omega)];exact HRX.o
  clear h1 o9 HBX HRX KW H1 e1
  cases e2:Fo.takes [13,10] r with
  |none =>
   rw[e2]at H2 HR
   go_wp2_with fail
   refine H2.o.mono ?_
   rintro e w3 ⟨rfl,h3,o3⟩
   have K3:=hide (K9.o.trans o3)
   clear h3 o3
   go_wp2_with fail
   refine(sn _).mono ?_
   rintro e w' ⟨rfl,hw⟩
   have hw:=hw.symm
   subst hw
   exact⟨rfl,.none_ HR.o.symm K3.o⟩
  |some q =>
   rw[e2]at H2 HR
   simp only[]at HR
   go_wp2_with fail
   refine H2.o.mono ?_
   rintro e w3 ⟨rfl,h3,o1⟩
   have HS3:=hide (show Sc B bs ao cap data x2 x3 x4 w3 q from h3)
   have K2:=K9
   have HBX3:Hid (w3.heap[w.heap.size]?=some (.cells #[.int .i64 k0,.int .i64 k1,.int .i64 k2,.string k3,.slice ja jl jc,.slice ka2 kl kc2,.slice fa2 fl fc2] 67 (0,0))):=by unfold Hid;rw[o1.block _ (lt_of_block HBX2.o) (by omega)];exact HBX2.o
   have HRX3:Hid (w3.heap[w.heap.size+1]?=some (.cells zero7 67 (0,0))):=by unfold Hid;rw[o1.block _ (lt_of_block HRX2.o) (by omega)];exact HRX2.o
   have K3:=hide (K2.o.trans o1)
   clear h3 o1 HBX2 HRX2
   go_wp2_with fail
   refine(smy _).mono ?_
   rintro e w' ⟨rfl,hw⟩
   have hw:=hw.symm
   subst hw
   have HI3:=hide (HI.o w3 K3.o)
   have d0:w3.cell? ⟨w.heap.size,0,none⟩=some (.int .i64 k0):=ceb HBX3.o
   have d1:w3.cell? ⟨w.heap.size,1,none⟩=some (.int .i64 k1):=ceb HBX3.o
   have d2:w3.cell? ⟨w.heap.size,2,none⟩=some (.int .i64 k2):=ceb HBX3.o
   have d3:w3.cell? ⟨w.heap.size,3,none⟩=some (.string k3):=ceb HBX3.o
   have d4:w3.cell? ⟨w.heap.size,4,none⟩=some (.slice ja jl jc):=ceb HBX3.o
   have d5:w3.cell? ⟨w.heap.size,5,none⟩=some (.slice ka2 kl kc2):=ceb HBX3.o
   have d6:w3.cell? ⟨w.heap.size,6,none⟩=some (.slice fa2 fl fc2):=ceb HBX3.o
   clear HI H2
   go_wp2_with fail
   refine HI3.o.mono ?_
   rintro e w4 ⟨b4,h4⟩
   cases e4:Fo.itemOf { data:=#[76,101,110,103,116,104] } 2 V with
   |none =>
    rw[e4]at h4 HR
    simp only[]at h4
    subst h4
    exact⟨rfl,.none_ HR.o.symm (K3.o.trans (.of_below b4))⟩
   |some y =>
    rw[e4]at h4 HR
    obtain⟨x,rfl,hx4⟩:=h4
    simp only[]at HR
    obtain⟨py,ya,yl,yc,ya2,yl2,yc2,ya3,yl3,yc3,rfl⟩:=VIn.form2 hx4
    have o4:Only bs w3 w4:=.of_below b4
    have HBX4:Hid (w4.heap[w.heap.size]?=some (.cells #[.int .i64 k0,.int .i64 k1,.int .i64 k2,.string k3,.slice ja jl jc,.slice ka2 kl kc2,.slice fa2 fl fc2] 67 (0,0))):=by unfold Hid;rw[o4.block _ (lt_of_block HBX3.o) (by omega)];exact HBX3.o
    have HRX4:Hid (w4.heap[w.heap.size+1]?=some (.cells zero7 67 (0,0))):=by unfold Hid;rw[o4.block _ (lt_of_block HRX3.o) (by omega)];exact HRX3.o
    have K4:=hide (K3.o.trans o4)
    have HS4:=hide (HS3.o.other b4)
    clear hx4 b4 o4 HI3 e4 d0 d1 d2 d3 d4 d5 d6 HS3
    generalize strN (tO y)=ty
    generalize (kO y:Int)=ky
    generalize hny:nOf y=ny at *
    clear hny
    have hfl:=rfN (.int .i64 ky) (.int .i64 py) (.string ty) (.slice ya yl yc) (.slice ya2 yl2 yc2) (.slice ya3 yl3 yc3) ny
    by_cases hn:0≤ny∧ny≤(q.length:Int)
    ·rw[if_pos hn]at HR
     obtain⟨n,rfl⟩:∃ n:Nat,ny=(n:Int):=⟨ny.toNat,by omega⟩
     have hnq:n≤q.length:=by omega
     rw[Int.toNat_natCast]at HR
     have HT:=hide (so_0 HS4.o n hnq)
     clear hn
     go_wp2_with fail
     refine HT.o.mono ?_
     rintro e w5 ⟨pv,rfl,ht5,h5,o5⟩
     have HBX5:Hid (w5.heap[w.heap.size]?=some (.cells #[.int .i64 k0,.int .i64 k1,.int .i64 k2,.string k3,.slice ja jl jc,.slice ka2 kl kc2,.slice fa2 fl fc2] 67 (0,0))):=by unfold Hid;rw[o5.block _ (lt_of_block HBX4.o) (by omega)];exact HBX4.o
     have HRX5:Hid (w5.heap[w.heap.size+1]?=some (.cells zero7 67 (0,0))):=by unfold Hid;rw[o5.block _ (lt_of_block HRX4.o) (by omega)];exact HRX4.o
     have K5:=hide (K4.o.trans o5)
     have HTK:=hide ht5
     have HS5:=hide h5
     have H6:=hide (sto h5 { data:=#[10] } (by decide) (by decide))
     rw[show bl { data:=#[10] }=[10]from rfl]at H6
     have hB5:=h5.env
     obtain⟨bd5,of5,c5,rfl,_⟩:=ht5
     generalize (q.take n).length=ln at *
     clear h5 o5 HT HS4 hfl
     cases e6:Fo.takes [10] (q.drop n)with
     |none =>
      rw[e6]at H6 HR
      go_wp2_with fail
      refine H6.o.mono ?_
      rintro e w6 ⟨rfl,h6,o6⟩
      have K6:=hide (K5.o.trans o6)
      clear h6 o6
      go_wp2_with fail
      refine(sn _).mono ?_
      rintro e w' ⟨rfl,hw⟩
      have hw:=hw.symm
      subst hw
      exact⟨rfl,.none_ HR.o.symm K6.o⟩
     |some t =>
      rw[e6]at H6 HR
      simp only[]at HR
      go_wp2_with fail
      refine H6.o.mono ?_
      rintro e w6 ⟨rfl,h6,o6⟩
      have HBX6:Hid (w6.heap[w.heap.size]?=some (.cells #[.int .i64 k0,.int .i64 k1,.int .i64 k2,.string k3,.slice ja jl jc,.slice ka2 kl kc2,.slice fa2 fl fc2] 67 (0,0))):=by unfold Hid;rw[o6.block _ (lt_of_block HBX5.o) (by omega)];exact HBX5.o
      have HRX6:Hid (w6.heap[w.heap.size+1]?=some (.cells zero7 67 (0,0))):=by unfold Hid;rw[o6.block _ (lt_of_block HRX5.o) (by omega)];exact HRX5.o
      have K6:=hide (K5.o.trans o6)
      have HTK6:=hide (HTK.o.only o6 HB.o hB5)
      have H7:=hide (spo (show Sc B bs ao cap data x2 x3 x4 w6 t from h6))
      have hB6:=h6.env
      have HBY:Hid (∀ x∈t,x<256):=fun x hx=>(show Sc B bs ao cap data x2 x3 x4 w6 t from h6).bytes x hx
      clear h6 o6 H6 HTK HS5 e6
      have hw6:w.heap.size+1<w6.heap.size:=lt_of_block HRX6.o
      by_cases he:t.takeWhile pB=[101,110,100,115,116,114,101,97,109]
      ·rw[if_pos he]at HR
       rw[he,show strN [101,110,100,115,116,114,101,97,109]={ data:=#[101,110,100,115,116,114,101,97,109] }from rfl]at H7
       go_wp2_with fail
       refine H7.o.mono ?_
       rintro e w7 ⟨rfl,h7,o7⟩
       have HBX7:Hid (w7.heap[w.heap.size]?=some (.cells #[.int .i64 k0,.int .i64 k1,.int .i64 k2,.string k3,.slice ja jl jc,.slice ka2 kl kc2,.slice fa2 fl fc2] 67 (0,0))):=by unfold Hid;rw[o7.block _ (lt_of_block HBX6.o) (by omega)];exact HBX6.o
       have HRX7:Hid (w7.heap[w.heap.size+1]?=some (.cells zero7 67 (0,0))):=by unfold Hid;rw[o7.block _ (lt_of_block HRX6.o) (by omega)];exact HRX6.o
       have K7:=hide (K6.o.trans o7)
       have HTK7:=hide (HTK6.o.only o7 HB.o hB6)
       have HS7:=hide h7
       have hB7:=h7.env
       clear h7 o7 H7 HTK6 he
       go_wp2_with fail
       refine(smy _).mono ?_
       rintro e w' ⟨rfl,hw⟩
       have hw:=hw.symm
       subst hw
       have d0:w7.cell? ⟨w.heap.size,0,none⟩=some (.int .i64 k0):=ceb HBX7.o
       have d1:w7.cell? ⟨w.heap.size,1,none⟩=some (.int .i64 k1):=ceb HBX7.o
       have d2:w7.cell? ⟨w.heap.size,2,none⟩=some (.int .i64 k2):=ceb HBX7.o
       have d3:w7.cell? ⟨w.heap.size,3,none⟩=some (.string k3):=ceb HBX7.o
       have d4:w7.cell? ⟨w.heap.size,4,none⟩=some (.slice ja jl jc):=ceb HBX7.o
       have d5:w7.cell? ⟨w.heap.size,5,none⟩=some (.slice ka2 kl kc2):=ceb HBX7.o
       have d6:w7.cell? ⟨w.heap.size,6,none⟩=some (.slice fa2 fl fc2):=ceb HBX7.o
       have HSO7:=hide (HSO.o w7 K7.o)
       clear HSO
       cases e8:Fo.streamOf V with
       |none =>
        rw[e8]at HSO7 HR
        go_wp2_with fail
        refine HSO7.o.mono ?_
        rintro e w8 ⟨b8,h8⟩
        simp only[]at h8
        subst h8
        exact⟨rfl,.none_ HR.o.symm (K7.o.trans (.of_below b8))⟩
       |some S =>
        rw[e8]at HSO7 HR
        simp only[]at HR
        go_wp2_with fail
        refine HSO7.o.mono ?_
        rintro e w8 ⟨b8,sv,rfl,hs8⟩
        have o8:Only bs w7 w8:=.of_below b8
        have HBX8:Hid (w8.heap[w.heap.size]?=some (.cells #[.int .i64 k0,.int .i64 k1,.int .i64 k2,.string k3,.slice ja jl jc,.slice ka2 kl kc2,.slice fa2 fl fc2] 67 (0,0))):=by unfold Hid;rw[o8.block _ (lt_of_block HBX7.o) (by omega)];exact HBX7.o
        have HRX8:Hid (w8.heap[w.heap.size+1]?=some (.cells zero7 67 (0,0))):=by unfold Hid;rw[o8.block _ (lt_of_block HRX7.o) (by omega)];exact HRX7.o
        have K8:=hide (K7.o.trans o8)
        have HTK8:=hide (HTK7.o.only o8 HB.o hB7)
        have HS8:=hide (HS7.o.other b8)
        have HV8:=hide hs8
        have hsz7:=K7.o.size
        have hb8:=lt_of_block HRX7.o
        obtain⟨z0,z1,z2,z3,za,zl,zc,za2,zl2,zc2,za3,zl3,zc3,rfl⟩:=VIn.form hs8
        have hrx:=HRX8.o
        unfold zero7 at hrx
        have r0:w8.cell? ⟨w.heap.size+1,0,none⟩=some (.int .i64 0):=ceb hrx
        have f0:w8.frozen? ⟨w.heap.size+1,0,none⟩=false:=frb hrx
        have r1:w8.cell? ⟨w.heap.size+1,1,none⟩=some (.int .i64 0):=ceb hrx
        have f1:w8.frozen? ⟨w.heap.size+1,1,none⟩=false:=frb hrx
        have r2:w8.cell? ⟨w.heap.size+1,2,none⟩=some (.int .i64 0):=ceb hrx
        have f2:w8.frozen? ⟨w.heap.size+1,2,none⟩=false:=frb hrx
        have r3:w8.cell? ⟨w.heap.size+1,3,none⟩=some (.string { data:=#[] }):=ceb hrx
        have f3:w8.frozen? ⟨w.heap.size+1,3,none⟩=false:=frb hrx
        have r4:w8.cell? ⟨w.heap.size+1,4,none⟩=some (.slice none 0 0):=ceb hrx
        have f4:w8.frozen? ⟨w.heap.size+1,4,none⟩=false:=frb hrx
        have r5:w8.cell? ⟨w.heap.size+1,5,none⟩=some (.slice none 0 0):=ceb hrx
        have f5:w8.frozen? ⟨w.heap.size+1,5,none⟩=false:=frb hrx
        have r6:w8.cell? ⟨w.heap.size+1,6,none⟩=some (.slice none 0 0):=ceb hrx
        have f6:w8.frozen? ⟨w.heap.size+1,6,none⟩=false:=frb hrx
        clear hs8 b8 o8 HSO7 HTK7 HS7 d0 d1 d2 d3 d4 d5 d6 hrx e8 HBX7 HBX8 HBX6 HBX5 HBX4 HBX3 HRX7 HRX6 HRX5 HRX4 HRX3
        go_wp2
        have hf:=set7 HRX8.o (.int .i64 z0) (.int .i64 z1) (.int .i64 z2) (.string z3) (.slice za zl zc) (.slice za2 zl2 zc2) (.slice za3 zl3 zc3)
        have ho:=only7 w8 (w.heap.size+1) (.int .i64 z0) (.int .i64 z1) (.int .i64 z2) (.string z3) (.slice za zl zc) (.slice za2 zl2 zc2) (.slice za3 zl3 zc3)
        refine bodyPost_ret (v:=.tuple #[.agg #[.int .i64 z0,.int .i64 z1,.int .i64 z2,.string z3,.slice za zl zc,.slice za2 zl2 zc2,.slice za3 zl3 zc3],.slice (some ⟨bd5,of5,none⟩) ln c5]) ?_ rfl ?_
        ·exact rcrt Tryz.results193 _ _ (w.heap.size+1) _ rfl (run_loadVar_row _ (w.heap.size+1) 67 67 _ _ _ hf Tryz.underlying67 rfl (by kernel_rfl))
        have hlow:∀ g,g≠w.heap.size+1→g<w8.heap.size→_:=fun g h1 h2=>ho.block g h2 h1
        refine .some_ HR.o.symm ⟨_,_,rfl,?_,?_⟩ ?_ ?_
        ·exact VIn.mono (k+1) (VIn.keep (P:=fun g=>(P g∧g<w.heap.size)∨w7.heap.size≤g) (k+1) HV8.o (fun g hg hg2=>hlow g (by rcases hg with hg | hg<;>omega) hg2)) (fun g hg _=>by rcases hg with hg | hg;exact Or.inl hg.1;exact Or.inr (by omega))
        ·exact HTK8.o.only ho (by have:=HB.o;omega) (by have:=K8.o.size;omega)
        ·have h:=HS8.o
         have hsz:=K8.o.size
         have hBb:=HB.o
         exact⟨h.hb,by rw[hlow _ (by omega) (by omega)];exact h.blk,h.dat.other (fun g hg=>hlow g (by omega) (by omega)),h.byt,h.len,h.lc,h.le,h.suf,h.ad⟩
        ·have hsz:=K8.o.size
         exact⟨ho.os.trans K8.o.os,ho.tape.trans K8.o.tape,ho.output.trans K8.o.output,Nat.le_trans hsz ho.size,fun g h1 h2=>(hlow g (by omega) (by omega)).trans (K8.o.block g h1 h2)⟩
      ·rw[if_neg he]at HR
       have t1:((strN (t.takeWhile pB)).toList==[101,110,100,115,116,114,101,97,109])=false:=by
        rw[strK,decide_eq_false_iff_not]
        intro e
        refine he (sNi (fun x hx=>HBY.o x ((List.takeWhile_prefix pB).subset hx)) (by decide) (e.trans rfl))
       generalize strN (t.takeWhile pB)=S at *
       clear he
       go_wp2_with fail
       refine H7.o.mono ?_
       rintro e w7 ⟨rfl,h7,o7⟩
       have K7:=hide (K6.o.trans o7)
       clear h7 o7 H7
       go_wp2_with fail
       refine(sn _).mono ?_
       rintro e w' ⟨rfl,hw⟩
       have hw:=hw.symm
       subst hw
       exact⟨rfl,.none_ HR.o.symm K7.o⟩
    ·rw[if_neg hn]at HR
     have HT:=hide (stn HS4.o ny (by omega))
     go_wp2_with fail
     refine HT.o.mono ?_
     rintro e w5 ⟨rfl,m5,hw5⟩
     exact⟨rfl,.none_ HR.o.symm (K4.o.trans (.of_below (by rw[hw5];exact bdN _ _)))⟩
end
section
variable{w w':World}
theorem iRo{P:Nat→Prop}{k:Nat}{v:Value}{V:Node (VT k)}(h:VIn P (k+1) w v V)(hfew:V.keys.length≤200000)(hff:V.filters.length≤200000) :
  Calls Tryz.prog 177 #[v] w fun e w'=>e=.returned (.bool (Fo.rightV V))∧Below w.heap.size w w':=by
 obtain⟨iv,kv,fv,vs,hv,hvl,hiv,hvs,hkv,hfv⟩:=h.parts
 have HD:Hid (∀ W:World,Below w.heap.size w W→Calls Tryz.prog 232 #[v] W fun e w'=>e=.returned (.bool (Fo.dictOk V.keys V.items.length))∧Below W.heap.size W w'):=
  fun W b=>iDo (VIn.keep (k+1) h (fun g _ hg=>b.block g hg)) hfew
 have HS:Hid (∀ W:World,Below w.heap.size w W→Calls Tryz.prog 233 #[v] W fun e w'=>e=.returned (.bool (Fo.streamOk V))∧Below W.heap.size W w'):=
  fun W b=>isSo (VIn.keep (k+1) h (fun g _ hg=>b.block g hg)) hfew hff
 obtain⟨ia,ic,rfl⟩:=ows hiv.1
 obtain⟨ka,kc,rfl⟩:=ows hkv.1
 obtain⟨fa,fc,rfl⟩:=ows hfv.1
 clear h hfv hiv hkv hvs
 obtain⟨R,hR⟩:∃ R,Fo.rightV V=R:=⟨_,rfl⟩
 rw[hR]
 unfold Fo.rightV at hR
 unfold nV at hv
 generalize hD:Fo.dictOk V.keys V.items.length=D at *
 generalize hSt:Fo.streamOk V=St at *
 have HNM:=hide (isNo (strN V.text))
 have HRL:=hide (isRo V.n V.places)
 generalize Fo.nameOk (strN V.text)=NM at *
 generalize Fo.realOk V.n V.places=RL at *
 generalize V.n=nn at *
 generalize V.places=pp at *
 generalize strN V.text=tt at *
 generalize V.filters.length=fl at hv
 generalize V.keys.length=kl at hv
 generalize vs.length=il at hv
 generalize hkd:V.kind=kd at *
 subst hv
 clear hkd hfew hff hvl hD hSt
 have B1:Hid (Below w.heap.size w (w.alloc (.cells #[.int .i64 (kd:Int),.int .i64 nn,.int .i64 (pp:Int),.string tt,.slice ia il ic,.slice ka kl kc,.slice fa fl fc] 67))):=(Below.refl _ _).alloc (Nat.le_refl _) _
 have HD1:=hide (HD.o _ B1.o)
 have HS1:=hide (HS.o _ B1.o)
 clear HD HS
 by_cases h0:kd=0
 ·subst h0
  have HR:Hid (R=_):=hR.symm
  clear hR
  clear HD1 HS1 HNM HRL
  go_enter Tryz.func177,Tryz.ntmps177
  go_wp2
  go_ret
  exact⟨by rw[HR.o];rfl,B1.o⟩
 have t0:((kd:Int)==0)=false:=by simp;omega
 by_cases h6:kd=6
 ·subst h6
  have HR:Hid (R=_):=hR.symm
  clear hR
  clear HD1 HS1 HNM HRL
  go_enter Tryz.func177,Tryz.ntmps177
  go_wp2
  go_ret
  exact⟨by rw[HR.o];rfl,B1.o⟩
 have t6:((kd:Int)==6)=false:=by simp;omega
 by_cases h9:kd=9
 ·subst h9
  have HR:Hid (R=_):=hR.symm
  clear hR
  clear HD1 HS1 HNM HRL
  go_enter Tryz.func177,Tryz.ntmps177
  go_wp2
  go_ret
  exact⟨by rw[HR.o];rfl,B1.o⟩
 have t9:((kd:Int)==9)=false:=by simp;omega
 by_cases h1:kd=1
 ·subst h1
  have HR:Hid (R=_):=hR.symm
  clear hR
  clear HD1 HS1 HNM HRL
  generalize hq:decide (0≤nn∧nn≤1)=q at *
  have HW:Hid (∀ W:World,Calls Tryz.prog 63 #[.int .i64 nn,.int .i64 (0),.int .i64 (1)] W fun e w'=>e=.returned (.bool q)∧w'=W):=fun W=>by rw[←hq];exact wid nn (0) (1) W
  clear hq
  go_enter Tryz.func177,Tryz.ntmps177
  go_wp2_with fail
  refine(HW.o _).mono ?_
  rintro e w2 ⟨rfl,hw⟩
  have hw:=hw.symm
  subst hw
  go_wp2
  go_ret
  exact⟨by rw[HR.o];rfl,B1.o⟩
 have t1:((kd:Int)==1)=false:=by simp;omega
 by_cases h2:kd=2
 ·subst h2
  have HR:Hid (R=_):=hR.symm
  clear hR
  clear HD1 HS1 HNM HRL
  generalize hq:decide (-2147483648≤nn∧nn≤2147483647)=q at *
  have HW:Hid (∀ W:World,Calls Tryz.prog 63 #[.int .i64 nn,.int .i64 (-2147483648),.int .i64 (2147483647)] W fun e w'=>e=.returned (.bool q)∧w'=W):=fun W=>by rw[←hq];exact wid nn (-2147483648) (2147483647) W
  clear hq
  go_enter Tryz.func177,Tryz.ntmps177
  go_wp2_with fail
  refine(HW.o _).mono ?_
  rintro e w2 ⟨rfl,hw⟩
  have hw:=hw.symm
  subst hw
  go_wp2
  go_ret
  exact⟨by rw[HR.o];rfl,B1.o⟩
 have t2:((kd:Int)==2)=false:=by simp;omega
 by_cases h3:kd=3
 ·subst h3
  have HR:Hid (R=_):=hR.symm
  clear hR
  clear HD1 HS1 HNM
  go_enter Tryz.func177,Tryz.ntmps177
  go_wp2_with fail
  refine(HRL.o _).mono ?_
  rintro e w2 ⟨rfl,hw⟩
  have hw:=hw.symm
  subst hw
  go_wp2
  go_ret
  exact⟨by rw[HR.o];rfl,B1.o⟩
 have t3:((kd:Int)==3)=false:=by simp;omega
 by_cases h4:kd=4
 ·subst h4
  have HR:Hid (R=_):=hR.symm
  clear hR
  clear HD1 HS1 HRL
  go_enter Tryz.func177,Tryz.ntmps177
  go_wp2_with fail
  refine(HNM.o _).mono ?_
  rintro e w2 ⟨rfl,hw⟩
  have hw:=hw.symm
  subst hw
  go_wp2
  go_ret
  exact⟨by rw[HR.o];rfl,B1.o⟩
 have t4:((kd:Int)==4)=false:=by simp;omega
 by_cases h5:kd=5
 ·subst h5
  have HR:Hid (R=_):=hR.symm
  clear hR
  clear HD1 HS1 HNM HRL
  go_enter Tryz.func177,Tryz.ntmps177
  go_wp2
  go_ret
  refine⟨?_,B1.o⟩
  rw[HR.o]
  show Ending.returned (Value.bool (decide ((tt.size:Int)≤4000)))=Ending.returned (Value.bool (decide (tt.size≤4000)))
  congr 2
  rw[decide_eq_decide]
  omega
 have t5:((kd:Int)==5)=false:=by simp;omega
 by_cases h7:kd=7
 ·subst h7
  have HR:Hid (R=_):=hR.symm
  clear hR
  clear HS1 HNM HRL
  go_enter Tryz.func177,Tryz.ntmps177
  go_wp2_with fail
  refine HD1.o.mono ?_
  rintro e w2 ⟨rfl,b2⟩
  have B2:=hide (B1.o.trans (b2.mono (by simp)))
  clear b2
  go_wp2
  go_ret
  exact⟨by rw[HR.o];rfl,B2.o⟩
 have t7:((kd:Int)==7)=false:=by simp;omega
 by_cases h8:kd=8
 ·subst h8
  have HR:Hid (R=_):=hR.symm
  clear hR
  clear HD1 HNM HRL
  go_enter Tryz.func177,Tryz.ntmps177
  go_wp2_with fail
  refine HS1.o.mono ?_
  rintro e w2 ⟨rfl,b2⟩
  have B2:=hide (B1.o.trans (b2.mono (by simp)))
  clear b2
  go_wp2
  go_ret
  exact⟨by rw[HR.o];rfl,B2.o⟩
 have t8:((kd:Int)==8)=false:=by simp;omega
 have HR:Hid (R=false):=by
  unfold Hid
  rw[←hR]
  match kd,h0,h1,h2,h3,h4,h5,h6,h7,h8,h9 with
  |0,h,_,_,_,_,_,_,_,_,_=>exact absurd rfl h
  |1,_,h,_,_,_,_,_,_,_,_=>exact absurd rfl h
  |2,_,_,h,_,_,_,_,_,_,_=>exact absurd rfl h
  |3,_,_,_,h,_,_,_,_,_,_=>exact absurd rfl h
  |4,_,_,_,_,h,_,_,_,_,_=>exact absurd rfl h
  |5,_,_,_,_,_,h,_,_,_,_=>exact absurd rfl h
  |6,_,_,_,_,_,_,h,_,_,_=>exact absurd rfl h
  |7,_,_,_,_,_,_,_,h,_,_=>exact absurd rfl h
  |8,_,_,_,_,_,_,_,_,h,_=>exact absurd rfl h
  |9,_,_,_,_,_,_,_,_,_,h=>exact absurd rfl h
  |n+10,_,_,_,_,_,_,_,_,_,_=>rfl
 clear hR h0 h1 h2 h3 h4 h5 h6 h7 h8 h9 HD1 HS1 HNM HRL
 generalize (kd:Int)=z at *
 go_enter Tryz.func177,Tryz.ntmps177
 go_wp2
 go_ret
 exact⟨by rw[HR.o];rfl,B1.o⟩
end
end Go.Proofs.YtgkljcmjnphpeaaGreatDoor
