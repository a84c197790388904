import Derived.Test.YtgkljcmjnphpeaaGreatDoorK18
set_option linter.unusedVariables false
set_option linter.unusedSimpArgs false
set_option maxHeartbeats 4000000
set_option maxRecDepth 100000
namespace Go.Proofs.YtgkljcmjnphpeaaGreatDoor
open Go.RowKit
section
variable{w w':World}
def WkIn(wb objs nodes:Nat)(w:World):Prop:=w.heap[wb]?=some (.cells #[.int .i64 (objs:Int),.int .i64 (nodes:Int)] 118 (0,0))
def WRes(wb objs:Nat)(o:Option Nat)(w:World)(e:Ending)(w':World):Prop:=
 Only wb w w'∧match o with
  |some n=>e=.returned (.bool true)∧WkIn wb objs n w'
  |none=>e=.returned (.bool false)
theorem WRes.no{wb objs:Nat}{o:Option Nat}(h:o=none)(k:Only wb w w'):WRes wb objs o w (.returned (.bool false)) w':=by subst h;exact⟨k,rfl⟩
theorem WRes.yes{wb objs n:Nat}{o:Option Nat}(h:o=some n)(k:Only wb w w')(hn:WkIn wb objs n w'):WRes wb objs o w (.returned (.bool true)) w':=by subst h;exact⟨k,rfl,hn⟩
def Fewf:{k:Nat}→VT k→Prop
 |0,_=>True
 |_+1,V=>(Node.items V).length≤200000∧(Node.keys V).length≤200000∧(Node.filters V).length≤200000∧∀ y∈Node.items V,Fewf y
def AllOk(wb objs k:Nat):Prop:=
 ∀(W:World) (P:Nat→Prop) (Ys:List (VT k)) (v:Value) (nodes:Nat),1≤nodes→nodes≤2000→Vals P k 0 Ys W v→(∀ g,P g→g≠wb)→(∀ y∈Ys,Fewf y)→Ys.length≤200000→WkIn wb objs nodes W →
  Calls Tryz.prog 92 #[.pointer (some ⟨wb,0,none⟩),v,.int .i64 (13-k:Nat)] W (WRes wb objs (Fo.walk objs k nodes Ys) W)
theorem VIn.onlyX{P:Nat→Prop}{k bs:Nat}{v:Value}{V:VT k}(h:VIn P k w v V)(hP:∀ g,P g→g≠bs)(o:Only bs w w'):VIn P k w' v V:=
 VIn.keep k h (fun g hg hg2=>o.block g hg2 (hP g hg))
theorem VIn.kids{P:Nat→Prop}{k:Nat}{V:Node (VT k)}{a0 a1 a2 a3 iv kv fv:Value}(h:VIn P (k+1) w (.agg #[a0,a1,a2,a3,iv,kv,fv]) V):Vals P k 0 V.items w iv:=by
 obtain⟨iv',kv',fv',vs,he,hvl,hi,hc,hk,hf⟩:=VIn.parts h
 unfold nV at he
 injection he with he
 simp at he
 obtain⟨_,_,_,_,rfl,_,_⟩:=he
 exact⟨vs,hi.1,hvl,hc⟩
def SC2(fl:Nat)(a b:Addr)(va vb:Value)(L:Array Bool)(W:World):Prop:=(L.getD fl false=false→W.cell? a=some va)∧W.cell? b=some vb
theorem SC2.set{fl i:Nat}{a b:Addr}{va vb:Value}{L:Array Bool}{W:World}(hi:i≠fl):SC2 fl a b va vb L W↔SC2 fl a b va vb (L.setIfInBounds i true) W:=by
 unfold SC2
 rw[getD_set_ne false hi]
def SC3(a b c:Addr)(va vb vc:Value)(L:Array Bool)(W:World):Prop:=W.cell? a=some va∧W.cell? b=some vb∧W.cell? c=some vc
theorem gDiX{L:Array Bool}{i:Nat}(h:L.getD i true=false):L.getD i false=false:=by
 rcases Nat.lt_or_ge i L.size with c | c
 ·simp[c]at h ⊢;exact h
 ·simp[Nat.not_lt.2 c]at h
theorem one_ok{wb objs k nodes:Nat}{P:Nat→Prop}{v:Value}{V:Node (VT k)}(hk:k≤11)(ih:AllOk wb objs k)(hv:VIn P (k+1) w v V)(hP:∀ g,P g→g≠wb)(hfew:Fewf (k:=k+1) V)(hw:WkIn wb objs nodes w)(hn1:1≤nodes)(hn2:nodes≤2000)(hobj:objs≤100000) :
  Calls Tryz.prog 130 #[.pointer (some ⟨wb,0,none⟩),v,.int .i64 (12-k:Nat)] w (WRes wb objs (if Fo.oneOk objs (12-k) nodes V=true then Fo.walk objs k (nodes+V.items.length) V.items else none) w):=by
 obtain⟨iv,kv,fv,vs,hvf,hvl,hiv,hvs,hkv,hfv⟩:=hv.parts
 obtain⟨ia,ic,rfl⟩:=ows hiv.1
 obtain⟨ka,kc,rfl⟩:=ows hkv.1
 obtain⟨fa,fc,rfl⟩:=ows hfv.1
 have hwb:=lt_of_block hw
 have HIB:Hid (∀ W:World,Only wb w W→Calls Tryz.prog 176 #[v] W fun e w'=>e=.returned (.bool (Fo.bareV V))∧Below W.heap.size W w'):=
  fun W o=>isBo (VIn.onlyX hv hP o) hfew.1 hfew.2.1 hfew.2.2.1
 have HIR:Hid (∀ W:World,Only wb w W→Calls Tryz.prog 177 #[v] W fun e w'=>e=.returned (.bool (Fo.rightV V))∧Below W.heap.size W w'):=
  fun W o=>iRo (VIn.onlyX hv hP o) hfew.2.1 hfew.2.2.1
 have hil:=hfew.1
 rw[hvl]at hvf
 obtain⟨dp,hdp⟩:∃ dp,12-k=dp:=⟨_,rfl⟩
 have HAL:Hid (∀(W:World) (nd:Nat),Only wb w W→1≤nd→nd≤2000→WkIn wb objs nd W→Calls Tryz.prog 92 #[.pointer (some ⟨wb,0,none⟩),.slice ia V.items.length ic,.int .i64 ((dp+1:Nat):Int)] W (WRes wb objs (Fo.walk objs k nd V.items) W)):=
  fun W nd o h1 h2 h3=>by
   have hvW:=VIn.onlyX hv hP o
   rw[hvf]at hvW
   have:=ih W P V.items (.slice ia V.items.length ic) nd h1 h2 (VIn.kids hvW) hP hfew.2.2.2 hfew.1 h3
   rw[show 13-k=dp+1 by omega]at this
   exact this
 rw[hdp]
 obtain⟨R,hR⟩:∃ R,(if Fo.oneOk objs dp nodes V=true then Fo.walk objs k (nodes+V.items.length) V.items else none)=R:=⟨_,rfl⟩
 rw[hR]
 unfold Fo.oneOk at hR
 unfold nV at hvf
 have HAL2:Hid (∀ W:World,Only wb w W→nodes+V.items.length≤2000→WkIn wb objs (nodes+V.items.length) W→Calls Tryz.prog 92 #[.pointer (some ⟨wb,0,none⟩),.slice ia V.items.length ic,.int .i64 ((dp+1:Nat):Int)] W (WRes wb objs (Fo.walk objs k (nodes+V.items.length) V.items) W)):=
  fun W o h1 h2=>HAL.o W _ o (by omega) h1 h2
 clear HAL
 generalize Fo.walk objs k (nodes+V.items.length) V.items=WR at *
 generalize Fo.bareV V=BB at *
 generalize Fo.rightV V=RR at *
 generalize V.n=nn at *
 generalize V.places=pp at *
 generalize strN V.text=tt at *
 generalize V.filters.length=fl at *
 generalize V.keys.length=kl at *
 generalize hile:V.items.length=il at *
 generalize V.kind=kd at *
 subst hvf
 have hd1:1≤dp∧dp≤12:=by omega
 clear hv hP hfew hvs hkv hfv hiv ih hdp hk hile
 have B1:Below w.heap.size w (w.alloc (.cells #[.int .i64 (kd:Int),.int .i64 nn,.int .i64 (pp:Int),.string tt,.slice ia il ic,.slice ka kl kc,.slice fa fl fc] 67)):=(Below.refl _ _).alloc (Nat.le_refl _) _
 have hbx:(w.alloc (.cells #[.int .i64 (kd:Int),.int .i64 nn,.int .i64 (pp:Int),.string tt,.slice ia il ic,.slice ka kl kc,.slice fa fl fc] 67)).heap[w.heap.size]?=some (.cells #[.int .i64 (kd:Int),.int .i64 nn,.int .i64 (pp:Int),.string tt,.slice ia il ic,.slice ka kl kc,.slice fa fl fc] 67 (0,0)):=bln _ _
 have hw1:(w.alloc (.cells #[.int .i64 (kd:Int),.int .i64 nn,.int .i64 (pp:Int),.string tt,.slice ia il ic,.slice ka kl kc,.slice fa fl fc] 67)).heap[wb]?=some (.cells #[.int .i64 (objs:Int),.int .i64 (nodes:Int)] 118 (0,0)):=bla _ hw
 have HC:Hid (SC2 10 ⟨wb,1,none⟩ ⟨w.heap.size,4,none⟩ (.int .i64 (nodes:Int)) (.slice ia il ic) (Array.replicate 11 false) (w.alloc (.cells #[.int .i64 (kd:Int),.int .i64 nn,.int .i64 (pp:Int),.string tt,.slice ia il ic,.slice ka kl kc,.slice fa fl fc] 67)).drew):=⟨fun _=>by show(w.alloc _).cell? _=_;rw[ceb hw1];rfl,by show(w.alloc _).cell? _=_;rw[ceb hbx];rfl⟩
 have hcn:(w.alloc (.cells #[.int .i64 (kd:Int),.int .i64 nn,.int .i64 (pp:Int),.string tt,.slice ia il ic,.slice ka kl kc,.slice fa fl fc] 67)).cell? ⟨wb,1,none⟩=some (.int .i64 (nodes:Int)):=ceb hw1
 have hfn:(w.alloc (.cells #[.int .i64 (kd:Int),.int .i64 nn,.int .i64 (pp:Int),.string tt,.slice ia il ic,.slice ka kl kc,.slice fa fl fc] 67)).frozen? ⟨wb,1,none⟩=false:=frb hw1
 obtain⟨w1,hw1e⟩:∃ w1,w.alloc (.cells #[.int .i64 (kd:Int),.int .i64 nn,.int .i64 (pp:Int),.string tt,.slice ia il ic,.slice ka kl kc,.slice fa fl fc] 67)=w1:=⟨_,rfl⟩
 rw[hw1e]at B1 hbx hw1 HC hcn hfn
 have K2:Hid (Only wb w ((w1.setCell ⟨wb,1,none⟩ (.int .i64 ((nodes:Int)+(il:Int)))).drew)):=Only.setCell (w:=w) (w':=w1) ⟨B1.os,B1.tape,B1.output,B1.size,fun g hg _=>B1.block g hg⟩ 1 _ |>.trans (.of_below (Below.refl _ _).drew)
 have HW2:Hid (WkIn wb objs (nodes+il) ((w1.setCell ⟨wb,1,none⟩ (.int .i64 ((nodes:Int)+(il:Int)))).drew)):=by
  unfold Hid WkIn
  show(w1.setCell ⟨wb,1,none⟩ (.int .i64 ((nodes:Int)+(il:Int)))).heap[wb]?=_
  rw[bsC _ hw1];rfl
 have HX2:Hid (((w1.setCell ⟨wb,1,none⟩ (.int .i64 ((nodes:Int)+(il:Int)))).drew).heap[w.heap.size]?=some (.cells #[.int .i64 (kd:Int),.int .i64 nn,.int .i64 (pp:Int),.string tt,.slice ia il ic,.slice ka kl kc,.slice fa fl fc] 67 (0,0))):=by
  unfold Hid
  show(w1.setCell ⟨wb,1,none⟩ (.int .i64 ((nodes:Int)+(il:Int)))).heap[w.heap.size]?=_
  rw[bsCn _ (by show w.heap.size≠wb;omega)];exact hbx
 have hadd:IntKind.i64.wrap ((nodes:Int)+(il:Int))=(nodes:Int)+(il:Int):=by rw[IntKind.wrap_i64];omega
 have HE1:=hide hw1e
 clear B1 hbx hw1 hw1e
 go_enter Tryz.func130,Tryz.ntmps130
 go_wp2_with fail
 rw[HE1.o]
 refine wrT (SC2 10 ⟨wb,1,none⟩ ⟨w.heap.size,4,none⟩ (.int .i64 (nodes:Int)) (.slice ia il ic)) (by kernel_rfl) ?_
 intro hD
 have hS:=HC.o
 refine ti 0 ?_ hD hS ?_
 clear hD hS;intro hD hS;(try simp only[putL])
 refine ti 1 ?_ hD hS ?_
 clear hD hS;intro hD hS;(try simp only[putL])
 refine ti 2 ?_ hD hS ?_
 clear hD hS;intro hD hS;(try simp only[putL])
 refine tk 3 ?_ hD ?_ hS ?_
 rotate_left
 ·intro W hW;obtain⟨L,hDs,hL,hSL⟩:=hW;have hcl:=hSL.1 (by cases h9:L.getD 10 false with | false=>rfl | true=>exact absurd (hDs.came 2 10 (by kernel_rfl) h9) (by rw[gDiX hL];decide));go_simp;try(with_reducible rfl)
 clear hD hS;intro hD hS;(try simp only[putL])
 refine ti 4 ?_ hD hS ?_
 clear hD hS;intro hD hS;(try simp only[putL])
 refine tk 5 ?_ hD ?_ hS ?_
 rotate_left
 ·intro W hW;obtain⟨L,hDs,hL,hSL⟩:=hW;have hcl:=hSL.2;go_simp;try(with_reducible rfl)
 clear hD hS;intro hD hS;(try simp only[putL])
 refine ti 6 ?_ hD hS ?_
 clear hD hS;intro hD hS;(try simp only[putL])
 refine ti 7 ?_ hD hS ?_
 clear hD hS;intro hD hS;(try simp only[putL])
 refine ti 8 ?_ hD hS ?_
 clear hD hS;intro hD hS;(try simp only[putL])
 refine ti 9 ?_ hD hS ?_
 clear hD hS;intro hD hS;(try simp only[putL])
 refine on 10 hD fun K' hK=>?_
 go_simp
 refine hK.o _ _ ⟨fun h9=>(by cases h9),ceb HX2.o⟩ (fun hD2 hS2=>?_)
 clear hD hS hK K'
 have hD:=hD2
 have hS:=hS2
 clear hD2 hS2
 (try simp only[putL])
 refine wATd (by kernel_rfl) ?_ _
 clear hD hS
 generalize (w1.setCell ⟨wb,1,none⟩ (.int .i64 ((nodes:Int)+(il:Int)))).drew=w2 at *
 clear hcn hfn HC hw HE1 hadd
 have q1:w2.cell? ⟨wb,1,none⟩=some (.int .i64 ((nodes+il:Nat):Int)):=ceb HW2.o
 have q0:w2.cell? ⟨wb,0,none⟩=some (.int .i64 (objs:Int)):=ceb HW2.o
 have d0:w2.cell? ⟨w.heap.size,0,none⟩=some (.int .i64 (kd:Int)):=ceb HX2.o
 have d1:w2.cell? ⟨w.heap.size,1,none⟩=some (.int .i64 nn):=ceb HX2.o
 have d2:w2.cell? ⟨w.heap.size,2,none⟩=some (.int .i64 (pp:Int)):=ceb HX2.o
 have d3:w2.cell? ⟨w.heap.size,3,none⟩=some (.string tt):=ceb HX2.o
 have d4:w2.cell? ⟨w.heap.size,4,none⟩=some (.slice ia il ic):=ceb HX2.o
 have d5:w2.cell? ⟨w.heap.size,5,none⟩=some (.slice ka kl kc):=ceb HX2.o
 have d6:w2.cell? ⟨w.heap.size,6,none⟩=some (.slice fa fl fc):=ceb HX2.o
 by_cases h1:nodes+il≤2000
 ·rw[decide_eq_true h1,Bool.true_and]at hR
  have HAL3:=hide (fun W o h=>HAL2.o W o h1 h)
  have Q1:=hide (wiy ((nodes+il:Nat):Int) 1 2000 w2 (by omega) (by omega))
  have Q2:=hide (wiy (dp:Int) 1 12 w2 (by omega) (by omega))
  generalize ((nodes+il:Nat):Int)=zn at *
  clear HAL2 h1 hn1 hn2 hil hvl
  by_cases h8:kd=8
  ·have t8:((kd:Int)==8)=true:=by simp;omega
   have t9:((kd:Int)==9)=false:=by simp;omega
   by_cases hdd1:1<dp
   ·have HR:Hid (R=none):=by unfold Hid;rw[←hR,decide_eq_true ⟨h8,hdd1⟩];rfl
    have u1:decide (1<(dp:Int))=true:=by simp;omega
    clear hR h8
    go_wp2_with fail
    refine Q1.o.mono ?_
    rintro e w3 ⟨rfl,hw⟩
    have hw:=hw.symm
    subst hw
    go_wp2_with fail
    refine Q2.o.mono ?_
    rintro e w3 ⟨rfl,hw⟩
    have hw:=hw.symm
    subst hw
    go_wp2
    go_ret
    exact .no HR.o K2.o
   ·have hR2:(if(BB&&RR)=true then WR else none)=R:=by rw[←hR];simp[h8,hdd1]
    have u1:decide (1<(dp:Int))=false:=by simp;omega
    clear hR
    have hR:=hR2
    clear hR2 h8
    go_wp2_with fail
    refine Q1.o.mono ?_
    rintro e w3 ⟨rfl,hw⟩
    have hw:=hw.symm
    subst hw
    go_wp2_with fail
    refine Q2.o.mono ?_
    rintro e w3 ⟨rfl,hw⟩
    have hw:=hw.symm
    subst hw
    go_wp2_with fail
    refine wrT (SC3 ⟨w.heap.size,0,none⟩ ⟨w.heap.size,1,none⟩ ⟨wb,0,none⟩ (.int .i64 (kd:Int)) (.int .i64 nn) (.int .i64 (objs:Int))) (by kernel_rfl) ?_
    intro hD
    have hS:SC3 ⟨w.heap.size,0,none⟩ ⟨w.heap.size,1,none⟩ ⟨wb,0,none⟩ (.int .i64 (kd:Int)) (.int .i64 nn) (.int .i64 (objs:Int)) (Array.replicate 14 false) w2.drew:=⟨d0,d1,q0⟩
    refine ti 0 ?_ hD hS ?_
    clear hD hS;intro hD hS;(try simp only[putL])
    refine tk 1 ?_ hD ?_ hS ?_
    rotate_left
    ·intro W hW;obtain⟨L,hDs,hL,hSL⟩:=hW;obtain⟨c0,c1,c2⟩:=hSL;go_simp;try(with_reducible rfl)
    clear hD hS;intro hD hS;(try simp only[putL])
    refine ti 2 ?_ hD hS ?_
    clear hD hS;intro hD hS;(try simp only[putL])
    refine ti 3 ?_ hD hS ?_
    clear hD hS;intro hD hS;(try simp only[putL])
    refine tu 4 hD hS ?_
    clear hD hS;intro hD hS;(try simp only[putL])
    refine tu 5 hD hS ?_
    clear hD hS;intro hD hS;(try simp only[putL])
    refine tu 6 hD hS ?_
    clear hD hS;intro hD hS;(try simp only[putL])
    refine tu 7 hD hS ?_
    clear hD hS;intro hD hS;(try simp only[putL])
    refine tu 8 hD hS ?_
    clear hD hS;intro hD hS;(try simp only[putL])
    refine tu 9 hD hS ?_
    clear hD hS;intro hD hS;(try simp only[putL])
    refine tu 10 hD hS ?_
    clear hD hS;intro hD hS;(try simp only[putL])
    refine tu 11 hD hS ?_
    clear hD hS;intro hD hS;(try simp only[putL])
    refine ti 12 ?_ hD hS ?_
    clear hD hS;intro hD hS;(try simp only[putL])
    refine on 13 hD fun K' hK=>?_
    go_simp
    refine hK.o _ _ ⟨d0,d1,q0⟩ (fun hD2 hS2=>?_)
    clear hD hS hK K'
    have hD:=hD2
    have hS:=hS2
    clear hD2 hS2
    (try simp only[putL])
    refine wATd (by kernel_rfl) ?_ _
    clear hD hS
    have K3:Hid (Only wb w w2.drew):=K2.o.trans (.of_below (Below.refl _ _).drew)
    have HW3:Hid (WkIn wb objs _ w2.drew):=HW2
    have HX3:Hid (w2.drew.heap[w.heap.size]?=some (.cells #[.int .i64 (kd:Int),.int .i64 nn,.int .i64 (pp:Int),.string tt,.slice ia il ic,.slice ka kl kc,.slice fa fl fc] 67 (0,0))):=HX2
    have hsz3:w.heap.size<w2.drew.heap.size:=lt_of_block HX3.o
    obtain⟨w3,hw3⟩:∃ w3,w2.drew=w3:=⟨_,rfl⟩
    rw[hw3]at K3 HW3 HX3 hsz3
    try rw[hw3]
    have p0:=HIB.o w3 K3.o
    have HP0:=hide p0
    clear p0 hw3 d0 d1 d2 d3 d4 d5 d6 q0 q1 Q1 Q2 K2 HW2 HX2
    have d0:w3.cell? ⟨w.heap.size,0,none⟩=some (.int .i64 (kd:Int)):=ceb HX3.o
    have d1:w3.cell? ⟨w.heap.size,1,none⟩=some (.int .i64 nn):=ceb HX3.o
    have d2:w3.cell? ⟨w.heap.size,2,none⟩=some (.int .i64 (pp:Int)):=ceb HX3.o
    have d3:w3.cell? ⟨w.heap.size,3,none⟩=some (.string tt):=ceb HX3.o
    have d4:w3.cell? ⟨w.heap.size,4,none⟩=some (.slice ia il ic):=ceb HX3.o
    have d5:w3.cell? ⟨w.heap.size,5,none⟩=some (.slice ka kl kc):=ceb HX3.o
    have d6:w3.cell? ⟨w.heap.size,6,none⟩=some (.slice fa fl fc):=ceb HX3.o
    cases BB with
    |false =>
     have HR:Hid (R=none):=by unfold Hid;rw[←hR];simp
     clear hR
     go_wp2_with fail
     refine HP0.o.mono ?_
     rintro e w4 ⟨rfl,b4⟩
     have K4:=hide (K3.o.trans (.of_below b4))
     clear b4
     go_wp2
     go_ret
     exact .no HR.o K4.o
    |true =>
     go_wp2_with fail
     refine HP0.o.mono ?_
     rintro e w4 ⟨rfl,b4⟩
     have K4:=hide (K3.o.trans (.of_below b4))
     have HX4:Hid (w4.heap[w.heap.size]?=some (.cells #[.int .i64 (kd:Int),.int .i64 nn,.int .i64 (pp:Int),.string tt,.slice ia il ic,.slice ka kl kc,.slice fa fl fc] 67 (0,0))):=by unfold Hid;rw[b4.block _ hsz3];exact HX3.o
     have HW4:Hid (WkIn wb objs _ w4):=(b4.block wb (by omega)).trans HW3.o
     have hsz4:w.heap.size<w4.heap.size:=lt_of_block HX4.o
     have p0:=HIR.o w4 K4.o
     have HP1:=hide p0
     clear p0 b4 d0 d1 d2 d3 d4 d5 d6 HP0 K3 HX3 HW3 hsz3
     have d0:w4.cell? ⟨w.heap.size,0,none⟩=some (.int .i64 (kd:Int)):=ceb HX4.o
     have d1:w4.cell? ⟨w.heap.size,1,none⟩=some (.int .i64 nn):=ceb HX4.o
     have d2:w4.cell? ⟨w.heap.size,2,none⟩=some (.int .i64 (pp:Int)):=ceb HX4.o
     have d3:w4.cell? ⟨w.heap.size,3,none⟩=some (.string tt):=ceb HX4.o
     have d4:w4.cell? ⟨w.heap.size,4,none⟩=some (.slice ia il ic):=ceb HX4.o
     have d5:w4.cell? ⟨w.heap.size,5,none⟩=some (.slice ka kl kc):=ceb HX4.o
     have d6:w4.cell? ⟨w.heap.size,6,none⟩=some (.slice fa fl fc):=ceb HX4.o
     cases RR with
     |false =>
      have HR:Hid (R=none):=by unfold Hid;rw[←hR];simp
      clear hR
      go_wp2_with fail
      refine HP1.o.mono ?_
      rintro e w5 ⟨rfl,b5⟩
      have K5:=hide (K4.o.trans (.of_below b5))
      clear b5
      go_wp2
      go_ret
      exact .no HR.o K5.o
     |true =>
      have HR:Hid (R=WR):=by unfold Hid;rw[←hR];simp
      clear hR
      go_wp2_with fail
      refine HP1.o.mono ?_
      rintro e w5 ⟨rfl,b5⟩
      have K5:=hide (K4.o.trans (.of_below b5))
      have HX5:Hid (w5.heap[w.heap.size]?=some (.cells #[.int .i64 (kd:Int),.int .i64 nn,.int .i64 (pp:Int),.string tt,.slice ia il ic,.slice ka kl kc,.slice fa fl fc] 67 (0,0))):=by unfold Hid;rw[b5.block _ hsz4];exact HX4.o
      have HW5:Hid (WkIn wb objs _ w5):=(b5.block wb (by omega)).trans HW4.o
      have e4:w5.cell? ⟨w.heap.size,4,none⟩=some (.slice ia il ic):=ceb HX5.o
      have hdd:IntKind.i64.wrap ((dp:Int)+1)=((dp+1:Nat):Int):=by rw[IntKind.wrap_i64];omega
      have HA5:=hide (HAL3.o w5 K5.o HW5.o)
      rw[show((dp+1:Nat):Int)=(dp:Int)+1 from rfl]at HA5
      clear b5 d0 d1 d2 d3 d4 d5 d6 HP1 K4 HX4 HW4 hsz4 hdd
      go_wp2_with fail
      refine HA5.o.mono ?_
      rintro e w6 ⟨o6,h6⟩
      cases WR with
      |none =>
       simp only[]at h6
       subst h6
       have K6:=hide (K5.o.trans o6)
       clear o6
       go_wp2
       go_ret
       exact .no HR.o K6.o
      |some nd =>
       obtain⟨rfl,h6⟩:=h6
       have K6:=hide (K5.o.trans o6)
       have HW6:=hide h6
       clear o6 h6
       go_wp2
       go_ret
       exact .yes HR.o K6.o HW6.o
  ·have t8:((kd:Int)==8)=false:=by simp;omega
   by_cases h9:kd=9
   ·have t9:((kd:Int)==9)=true:=by simp;omega
    by_cases h9n:1≤nn∧nn≤(objs:Int)
    ·have hR2:(if(BB&&RR)=true then WR else none)=R:=by rw[←hR];simp[h8,h9,h9n]
     clear hR
     have hR:=hR2
     clear hR2 h8 h9
     go_wp2_with fail
     refine Q1.o.mono ?_
     rintro e w3 ⟨rfl,hw⟩
     have hw:=hw.symm
     subst hw
     go_wp2_with fail
     refine Q2.o.mono ?_
     rintro e w3 ⟨rfl,hw⟩
     have hw:=hw.symm
     subst hw
     go_wp2_with fail
     refine wrT (SC3 ⟨w.heap.size,0,none⟩ ⟨w.heap.size,1,none⟩ ⟨wb,0,none⟩ (.int .i64 (kd:Int)) (.int .i64 nn) (.int .i64 (objs:Int))) (by kernel_rfl) ?_
     intro hD
     have hS:SC3 ⟨w.heap.size,0,none⟩ ⟨w.heap.size,1,none⟩ ⟨wb,0,none⟩ (.int .i64 (kd:Int)) (.int .i64 nn) (.int .i64 (objs:Int)) (Array.replicate 14 false) w2.drew:=⟨d0,d1,q0⟩
     refine ti 0 ?_ hD hS ?_
     clear hD hS;intro hD hS;(try simp only[putL])
     refine tk 1 ?_ hD ?_ hS ?_
     rotate_left
     ·intro W hW;obtain⟨L,hDs,hL,hSL⟩:=hW;obtain⟨c0,c1,c2⟩:=hSL;go_simp;try(with_reducible rfl)
     clear hD hS;intro hD hS;(try simp only[putL])
     refine ti 2 ?_ hD hS ?_
     clear hD hS;intro hD hS;(try simp only[putL])
     refine ti 3 ?_ hD hS ?_
     clear hD hS;intro hD hS;(try simp only[putL])
     refine ti 4 ?_ hD hS ?_
     clear hD hS;intro hD hS;(try simp only[putL])
     refine tk 5 ?_ hD ?_ hS ?_
     rotate_left
     ·intro W hW;obtain⟨L,hDs,hL,hSL⟩:=hW;obtain⟨c0,c1,c2⟩:=hSL;go_simp;try(with_reducible rfl)
     clear hD hS;intro hD hS;(try simp only[putL])
     refine ti 6 ?_ hD hS ?_
     clear hD hS;intro hD hS;(try simp only[putL])
     refine ti 7 ?_ hD hS ?_
     clear hD hS;intro hD hS;(try simp only[putL])
     refine ti 8 ?_ hD hS ?_
     clear hD hS;intro hD hS;(try simp only[putL])
     refine tk 9 ?_ hD ?_ hS ?_
     rotate_left
     ·intro W hW;obtain⟨L,hDs,hL,hSL⟩:=hW;obtain⟨c0,c1,c2⟩:=hSL;go_simp;try(with_reducible rfl)
     clear hD hS;intro hD hS;(try simp only[putL])
     refine on 10 hD fun K' hK=>?_
     go_simp
     refine(wiy _ 1 _ _ h9n.1 h9n.2).mono ?_
     rintro e w3 ⟨rfl,hw⟩
     have hw:=hw.symm
     subst hw
     refine hK.o _ _ ⟨d0,d1,q0⟩ (fun hD2 hS2=>?_)
     clear hD hS hK K'
     have hD:=hD2
     have hS:=hS2
     clear hD2 hS2
     (try simp only[putL])
     refine on 11 hD fun K' hK=>?_
     go_simp
     refine hK.o _ _ ⟨d0,d1,q0⟩ (fun hD2 hS2=>?_)
     clear hD hS hK K'
     have hD:=hD2
     have hS:=hS2
     clear hD2 hS2
     (try simp only[putL])
     refine on 12 hD fun K' hK=>?_
     go_simp
     refine hK.o _ _ ⟨d0,d1,q0⟩ (fun hD2 hS2=>?_)
     clear hD hS hK K'
     have hD:=hD2
     have hS:=hS2
     clear hD2 hS2
     (try simp only[putL])
     refine on 13 hD fun K' hK=>?_
     go_simp
     refine hK.o _ _ ⟨d0,d1,q0⟩ (fun hD2 hS2=>?_)
     clear hD hS hK K'
     have hD:=hD2
     have hS:=hS2
     clear hD2 hS2
     (try simp only[putL])
     refine wATd (by kernel_rfl) ?_ _
     clear hD hS
     have K3:Hid (Only wb w w2.drew):=K2.o.trans (.of_below (Below.refl _ _).drew)
     have HW3:Hid (WkIn wb objs _ w2.drew):=HW2
     have HX3:Hid (w2.drew.heap[w.heap.size]?=some (.cells #[.int .i64 (kd:Int),.int .i64 nn,.int .i64 (pp:Int),.string tt,.slice ia il ic,.slice ka kl kc,.slice fa fl fc] 67 (0,0))):=HX2
     have hsz3:w.heap.size<w2.drew.heap.size:=lt_of_block HX3.o
     obtain⟨w3,hw3⟩:∃ w3,w2.drew=w3:=⟨_,rfl⟩
     rw[hw3]at K3 HW3 HX3 hsz3
     try rw[hw3]
     have p0:=HIB.o w3 K3.o
     have HP0:=hide p0
     clear p0 hw3 d0 d1 d2 d3 d4 d5 d6 q0 q1 Q1 Q2 K2 HW2 HX2
     have d0:w3.cell? ⟨w.heap.size,0,none⟩=some (.int .i64 (kd:Int)):=ceb HX3.o
     have d1:w3.cell? ⟨w.heap.size,1,none⟩=some (.int .i64 nn):=ceb HX3.o
     have d2:w3.cell? ⟨w.heap.size,2,none⟩=some (.int .i64 (pp:Int)):=ceb HX3.o
     have d3:w3.cell? ⟨w.heap.size,3,none⟩=some (.string tt):=ceb HX3.o
     have d4:w3.cell? ⟨w.heap.size,4,none⟩=some (.slice ia il ic):=ceb HX3.o
     have d5:w3.cell? ⟨w.heap.size,5,none⟩=some (.slice ka kl kc):=ceb HX3.o
     have d6:w3.cell? ⟨w.heap.size,6,none⟩=some (.slice fa fl fc):=ceb HX3.o
     cases BB with
     |false =>
      have HR:Hid (R=none):=by unfold Hid;rw[←hR];simp
      clear hR
      go_wp2_with fail
      refine HP0.o.mono ?_
      rintro e w4 ⟨rfl,b4⟩
      have K4:=hide (K3.o.trans (.of_below b4))
      clear b4
      go_wp2
      go_ret
      exact .no HR.o K4.o
     |true =>
      go_wp2_with fail
      refine HP0.o.mono ?_
      rintro e w4 ⟨rfl,b4⟩
      have K4:=hide (K3.o.trans (.of_below b4))
      have HX4:Hid (w4.heap[w.heap.size]?=some (.cells #[.int .i64 (kd:Int),.int .i64 nn,.int .i64 (pp:Int),.string tt,.slice ia il ic,.slice ka kl kc,.slice fa fl fc] 67 (0,0))):=by unfold Hid;rw[b4.block _ hsz3];exact HX3.o
      have HW4:Hid (WkIn wb objs _ w4):=(b4.block wb (by omega)).trans HW3.o
      have hsz4:w.heap.size<w4.heap.size:=lt_of_block HX4.o
      have p0:=HIR.o w4 K4.o
      have HP1:=hide p0
      clear p0 b4 d0 d1 d2 d3 d4 d5 d6 HP0 K3 HX3 HW3 hsz3
      have d0:w4.cell? ⟨w.heap.size,0,none⟩=some (.int .i64 (kd:Int)):=ceb HX4.o
      have d1:w4.cell? ⟨w.heap.size,1,none⟩=some (.int .i64 nn):=ceb HX4.o
      have d2:w4.cell? ⟨w.heap.size,2,none⟩=some (.int .i64 (pp:Int)):=ceb HX4.o
      have d3:w4.cell? ⟨w.heap.size,3,none⟩=some (.string tt):=ceb HX4.o
      have d4:w4.cell? ⟨w.heap.size,4,none⟩=some (.slice ia il ic):=ceb HX4.o
      have d5:w4.cell? ⟨w.heap.size,5,none⟩=some (.slice ka kl kc):=ceb HX4.o
      have d6:w4.cell? ⟨w.heap.size,6,none⟩=some (.slice fa fl fc):=ceb HX4.o
      cases RR with
      |false =>
       have HR:Hid (R=none):=by unfold Hid;rw[←hR];simp
       clear hR
       go_wp2_with fail
       refine HP1.o.mono ?_
       rintro e w5 ⟨rfl,b5⟩
       have K5:=hide (K4.o.trans (.of_below b5))
       clear b5
       go_wp2
       go_ret
       exact .no HR.o K5.o
      |true =>
       have HR:Hid (R=WR):=by unfold Hid;rw[←hR];simp
       clear hR
       go_wp2_with fail
       refine HP1.o.mono ?_
       rintro e w5 ⟨rfl,b5⟩
       have K5:=hide (K4.o.trans (.of_below b5))
       have HX5:Hid (w5.heap[w.heap.size]?=some (.cells #[.int .i64 (kd:Int),.int .i64 nn,.int .i64 (pp:Int),.string tt,.slice ia il ic,.slice ka kl kc,.slice fa fl fc] 67 (0,0))):=by unfold Hid;rw[b5.block _ hsz4];exact HX4.o
       have HW5:Hid (WkIn wb objs _ w5):=(b5.block wb (by omega)).trans HW4.o
       have e4:w5.cell? ⟨w.heap.size,4,none⟩=some (.slice ia il ic):=ceb HX5.o
       have hdd:IntKind.i64.wrap ((dp:Int)+1)=((dp+1:Nat):Int):=by rw[IntKind.wrap_i64];omega
       have HA5:=hide (HAL3.o w5 K5.o HW5.o)
       rw[show((dp+1:Nat):Int)=(dp:Int)+1 from rfl]at HA5
       clear b5 d0 d1 d2 d3 d4 d5 d6 HP1 K4 HX4 HW4 hsz4 hdd
       go_wp2_with fail
       refine HA5.o.mono ?_
       rintro e w6 ⟨o6,h6⟩
       cases WR with
       |none =>
        simp only[]at h6
        subst h6
        have K6:=hide (K5.o.trans o6)
        clear o6
        go_wp2
        go_ret
        exact .no HR.o K6.o
       |some nd =>
        obtain⟨rfl,h6⟩:=h6
        have K6:=hide (K5.o.trans o6)
        have HW6:=hide h6
        clear o6 h6
        go_wp2
        go_ret
        exact .yes HR.o K6.o HW6.o
    ·have HR:Hid (R=none):=by unfold Hid;rw[←hR];simp[h8,h9,h9n]
     clear hR h8 h9
     go_wp2_with fail
     refine Q1.o.mono ?_
     rintro e w3 ⟨rfl,hw⟩
     have hw:=hw.symm
     subst hw
     go_wp2_with fail
     refine Q2.o.mono ?_
     rintro e w3 ⟨rfl,hw⟩
     have hw:=hw.symm
     subst hw
     go_wp2_with fail
     refine wrT (SC3 ⟨w.heap.size,0,none⟩ ⟨w.heap.size,1,none⟩ ⟨wb,0,none⟩ (.int .i64 (kd:Int)) (.int .i64 nn) (.int .i64 (objs:Int))) (by kernel_rfl) ?_
     intro hD
     have hS:SC3 ⟨w.heap.size,0,none⟩ ⟨w.heap.size,1,none⟩ ⟨wb,0,none⟩ (.int .i64 (kd:Int)) (.int .i64 nn) (.int .i64 (objs:Int)) (Array.replicate 14 false) w2.drew:=⟨d0,d1,q0⟩
     refine ti 0 ?_ hD hS ?_
     clear hD hS;intro hD hS;(try simp only[putL])
     refine tk 1 ?_ hD ?_ hS ?_
     rotate_left
     ·intro W hW;obtain⟨L,hDs,hL,hSL⟩:=hW;obtain⟨c0,c1,c2⟩:=hSL;go_simp;try(with_reducible rfl)
     clear hD hS;intro hD hS;(try simp only[putL])
     refine ti 2 ?_ hD hS ?_
     clear hD hS;intro hD hS;(try simp only[putL])
     refine ti 3 ?_ hD hS ?_
     clear hD hS;intro hD hS;(try simp only[putL])
     refine ti 4 ?_ hD hS ?_
     clear hD hS;intro hD hS;(try simp only[putL])
     refine tk 5 ?_ hD ?_ hS ?_
     rotate_left
     ·intro W hW;obtain⟨L,hDs,hL,hSL⟩:=hW;obtain⟨c0,c1,c2⟩:=hSL;go_simp;try(with_reducible rfl)
     clear hD hS;intro hD hS;(try simp only[putL])
     refine ti 6 ?_ hD hS ?_
     clear hD hS;intro hD hS;(try simp only[putL])
     refine ti 7 ?_ hD hS ?_
     clear hD hS;intro hD hS;(try simp only[putL])
     refine ti 8 ?_ hD hS ?_
     clear hD hS;intro hD hS;(try simp only[putL])
     refine tk 9 ?_ hD ?_ hS ?_
     rotate_left
     ·intro W hW;obtain⟨L,hDs,hL,hSL⟩:=hW;obtain⟨c0,c1,c2⟩:=hSL;go_simp;try(with_reducible rfl)
     clear hD hS;intro hD hS;(try simp only[putL])
     refine on 10 hD fun K' hK=>?_
     go_simp
     refine(win _ 1 _ _ (by omega)).mono ?_
     rintro e w3 ⟨rfl,hw⟩
     have hw:=hw.symm
     subst hw
     refine hK.o _ _ ⟨d0,d1,q0⟩ (fun hD2 hS2=>?_)
     clear hD hS hK K'
     have hD:=hD2
     have hS:=hS2
     clear hD2 hS2
     (try simp only[putL])
     refine on 11 hD fun K' hK=>?_
     go_simp
     refine hK.o _ _ ⟨d0,d1,q0⟩ (fun hD2 hS2=>?_)
     clear hD hS hK K'
     have hD:=hD2
     have hS:=hS2
     clear hD2 hS2
     (try simp only[putL])
     refine on 12 hD fun K' hK=>?_
     go_simp
     refine hK.o _ _ ⟨d0,d1,q0⟩ (fun hD2 hS2=>?_)
     clear hD hS hK K'
     have hD:=hD2
     have hS:=hS2
     clear hD2 hS2
     (try simp only[putL])
     refine on 13 hD fun K' hK=>?_
     go_simp
     refine hK.o _ _ ⟨d0,d1,q0⟩ (fun hD2 hS2=>?_)
     clear hD hS hK K'
     have hD:=hD2
     have hS:=hS2
     clear hD2 hS2
     (try simp only[putL])
     refine wATd (by kernel_rfl) ?_ _
     clear hD hS
     have K3:Hid (Only wb w w2.drew):=K2.o.trans (.of_below (Below.refl _ _).drew)
     go_wp2
     go_ret
     exact .no HR.o K3.o
   ·have t9:((kd:Int)==9)=false:=by simp;omega
    have hR2:(if(BB&&RR)=true then WR else none)=R:=by rw[←hR];simp[h8,h9]
    clear hR
    have hR:=hR2
    clear hR2 h8 h9
    go_wp2_with fail
    refine Q1.o.mono ?_
    rintro e w3 ⟨rfl,hw⟩
    have hw:=hw.symm
    subst hw
    go_wp2_with fail
    refine Q2.o.mono ?_
    rintro e w3 ⟨rfl,hw⟩
    have hw:=hw.symm
    subst hw
    go_wp2_with fail
    refine wrT (SC3 ⟨w.heap.size,0,none⟩ ⟨w.heap.size,1,none⟩ ⟨wb,0,none⟩ (.int .i64 (kd:Int)) (.int .i64 nn) (.int .i64 (objs:Int))) (by kernel_rfl) ?_
    intro hD
    have hS:SC3 ⟨w.heap.size,0,none⟩ ⟨w.heap.size,1,none⟩ ⟨wb,0,none⟩ (.int .i64 (kd:Int)) (.int .i64 nn) (.int .i64 (objs:Int)) (Array.replicate 14 false) w2.drew:=⟨d0,d1,q0⟩
    refine ti 0 ?_ hD hS ?_
    clear hD hS;intro hD hS;(try simp only[putL])
    refine tk 1 ?_ hD ?_ hS ?_
    rotate_left
    ·intro W hW;obtain⟨L,hDs,hL,hSL⟩:=hW;obtain⟨c0,c1,c2⟩:=hSL;go_simp;try(with_reducible rfl)
    clear hD hS;intro hD hS;(try simp only[putL])
    refine ti 2 ?_ hD hS ?_
    clear hD hS;intro hD hS;(try simp only[putL])
    refine ti 3 ?_ hD hS ?_
    clear hD hS;intro hD hS;(try simp only[putL])
    refine tu 4 hD hS ?_
    clear hD hS;intro hD hS;(try simp only[putL])
    refine tu 5 hD hS ?_
    clear hD hS;intro hD hS;(try simp only[putL])
    refine tu 6 hD hS ?_
    clear hD hS;intro hD hS;(try simp only[putL])
    refine tu 7 hD hS ?_
    clear hD hS;intro hD hS;(try simp only[putL])
    refine tu 8 hD hS ?_
    clear hD hS;intro hD hS;(try simp only[putL])
    refine tu 9 hD hS ?_
    clear hD hS;intro hD hS;(try simp only[putL])
    refine tu 10 hD hS ?_
    clear hD hS;intro hD hS;(try simp only[putL])
    refine tu 11 hD hS ?_
    clear hD hS;intro hD hS;(try simp only[putL])
    refine ti 12 ?_ hD hS ?_
    clear hD hS;intro hD hS;(try simp only[putL])
    refine on 13 hD fun K' hK=>?_
    go_simp
    refine hK.o _ _ ⟨d0,d1,q0⟩ (fun hD2 hS2=>?_)
    clear hD hS hK K'
    have hD:=hD2
    have hS:=hS2
    clear hD2 hS2
    (try simp only[putL])
    refine wATd (by kernel_rfl) ?_ _
    clear hD hS
    have K3:Hid (Only wb w w2.drew):=K2.o.trans (.of_below (Below.refl _ _).drew)
    have HW3:Hid (WkIn wb objs _ w2.drew):=HW2
    have HX3:Hid (w2.drew.heap[w.heap.size]?=some (.cells #[.int .i64 (kd:Int),.int .i64 nn,.int .i64 (pp:Int),.string tt,.slice ia il ic,.slice ka kl kc,.slice fa fl fc] 67 (0,0))):=HX2
    have hsz3:w.heap.size<w2.drew.heap.size:=lt_of_block HX3.o
    obtain⟨w3,hw3⟩:∃ w3,w2.drew=w3:=⟨_,rfl⟩
    rw[hw3]at K3 HW3 HX3 hsz3
    try rw[hw3]
    have p0:=HIB.o w3 K3.o
    have HP0:=hide p0
    clear p0 hw3 d0 d1 d2 d3 d4 d5 d6 q0 q1 Q1 Q2 K2 HW2 HX2
    have d0:w3.cell? ⟨w.heap.size,0,none⟩=some (.int .i64 (kd:Int)):=ceb HX3.o
    have d1:w3.cell? ⟨w.heap.size,1,none⟩=some (.int .i64 nn):=ceb HX3.o
    have d2:w3.cell? ⟨w.heap.size,2,none⟩=some (.int .i64 (pp:Int)):=ceb HX3.o
    have d3:w3.cell? ⟨w.heap.size,3,none⟩=some (.string tt):=ceb HX3.o
    have d4:w3.cell? ⟨w.heap.size,4,none⟩=some (.slice ia il ic):=ceb HX3.o
    have d5:w3.cell? ⟨w.heap.size,5,none⟩=some (.slice ka kl kc):=ceb HX3.o
    have d6:w3.cell? ⟨w.heap.size,6,none⟩=some (.slice fa fl fc):=ceb HX3.o
    cases BB with
    |false =>
     have HR:Hid (R=none):=by unfold Hid;rw[←hR];simp
     clear hR
     go_wp2_with fail
     refine HP0.o.mono ?_
     rintro e w4 ⟨rfl,b4⟩
     have K4:=hide (K3.o.trans (.of_below b4))
     clear b4
     go_wp2
     go_ret
     exact .no HR.o K4.o
    |true =>
     go_wp2_with fail
     refine HP0.o.mono ?_
     rintro e w4 ⟨rfl,b4⟩
     have K4:=hide (K3.o.trans (.of_below b4))
     have HX4:Hid (w4.heap[w.heap.size]?=some (.cells #[.int .i64 (kd:Int),.int .i64 nn,.int .i64 (pp:Int),.string tt,.slice ia il ic,.slice ka kl kc,.slice fa fl fc] 67 (0,0))):=by unfold Hid;rw[b4.block _ hsz3];exact HX3.o
     have HW4:Hid (WkIn wb objs _ w4):=(b4.block wb (by omega)).trans HW3.o
     have hsz4:w.heap.size<w4.heap.size:=lt_of_block HX4.o
     have p0:=HIR.o w4 K4.o
     have HP1:=hide p0
     clear p0 b4 d0 d1 d2 d3 d4 d5 d6 HP0 K3 HX3 HW3 hsz3
     have d0:w4.cell? ⟨w.heap.size,0,none⟩=some (.int .i64 (kd:Int)):=ceb HX4.o
     have d1:w4.cell? ⟨w.heap.size,1,none⟩=some (.int .i64 nn):=ceb HX4.o
     have d2:w4.cell? ⟨w.heap.size,2,none⟩=some (.int .i64 (pp:Int)):=ceb HX4.o
     have d3:w4.cell? ⟨w.heap.size,3,none⟩=some (.string tt):=ceb HX4.o
     have d4:w4.cell? ⟨w.heap.size,4,none⟩=some (.slice ia il ic):=ceb HX4.o
     have d5:w4.cell? ⟨w.heap.size,5,none⟩=some (.slice ka kl kc):=ceb HX4.o
     have d6:w4.cell? ⟨w.heap.size,6,none⟩=some (.slice fa fl fc):=ceb HX4.o
     cases RR with
     |false =>
      have HR:Hid (R=none):=by unfold Hid;rw[←hR];simp
      clear hR
      go_wp2_with fail
      refine HP1.o.mono ?_
      rintro e w5 ⟨rfl,b5⟩
      have K5:=hide (K4.o.trans (.of_below b5))
      clear b5
      go_wp2
      go_ret
      exact .no HR.o K5.o
     |true =>
      have HR:Hid (R=WR):=by unfold Hid;rw[←hR];simp
      clear hR
      go_wp2_with fail
      refine HP1.o.mono ?_
      rintro e w5 ⟨rfl,b5⟩
      have K5:=hide (K4.o.trans (.of_below b5))
      have HX5:Hid (w5.heap[w.heap.size]?=some (.cells #[.int .i64 (kd:Int),.int .i64 nn,.int .i64 (pp:Int),.string tt,.slice ia il ic,.slice ka kl kc,.slice fa fl fc] 67 (0,0))):=by unfold Hid;rw[b5.block _ hsz4];exact HX4.o
      have HW5:Hid (WkIn wb objs _ w5):=(b5.block wb (by omega)).trans HW4.o
      have e4:w5.cell? ⟨w.heap.size,4,none⟩=some (.slice ia il ic):=ceb HX5.o
      have hdd:IntKind.i64.wrap ((dp:Int)+1)=((dp+1:Nat):Int):=by rw[IntKind.wrap_i64];omega
      have HA5:=hide (HAL3.o w5 K5.o HW5.o)
      rw[show((dp+1:Nat):Int)=(dp:Int)+1 from rfl]at HA5
      clear b5 d0 d1 d2 d3 d4 d5 d6 HP1 K4 HX4 HW4 hsz4 hdd
      go_wp2_with fail
      refine HA5.o.mono ?_
      rintro e w6 ⟨o6,h6⟩
      cases WR with
      |none =>
       simp only[]at h6
       subst h6
       have K6:=hide (K5.o.trans o6)
       clear o6
       go_wp2
       go_ret
       exact .no HR.o K6.o
      |some nd =>
       obtain⟨rfl,h6⟩:=h6
       have K6:=hide (K5.o.trans o6)
       have HW6:=hide h6
       clear o6 h6
       go_wp2
       go_ret
       exact .yes HR.o K6.o HW6.o
 ·have HR:Hid (R=none):=by unfold Hid;rw[←hR,decide_eq_false h1];rfl
  clear hR
  go_wp2_with fail
  refine(win _ 1 2000 _ (by omega)).mono ?_
  rintro e w3 ⟨rfl,hw⟩
  have hw:=hw.symm
  subst hw
  go_wp2
  go_ret
  exact .no HR.o K2.o
end
end Go.Proofs.YtgkljcmjnphpeaaGreatDoor
