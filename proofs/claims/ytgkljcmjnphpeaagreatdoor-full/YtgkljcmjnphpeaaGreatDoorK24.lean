import Derived.Test.YtgkljcmjnphpeaaGreatDoorK04
set_option linter.unusedVariables false
set_option linter.unusedSimpArgs false
set_option maxHeartbeats 8000000
set_option maxRecDepth 100000
namespace Go.Proofs.YtgkljcmjnphpeaaGreatDoor
open Go.RowKit
section
variable{w w':World}
def KO:{k:Nat}→VT k→Prop
 |0,_=>True
 |k+1,V=>((Node.keys V).length=0∨(Node.items V).length≤(Node.keys V).length)∧∀ y∈Node.items V,KO (k:=k) y
theorem VIn.split{P:Nat→Prop}{k:Nat}{v:Value}{V:Node (VT k)}(h:VIn P (k+1) w v V):∃(ia:Option Addr) (ic:Nat) (ka:Option Addr) (kc:Nat) (fa:Option Addr) (fc:Nat),v=.agg #[.int .i64 (V.kind:Int),.int .i64 V.n,.int .i64 (V.places:Int),.string (strN V.text),.slice ia V.items.length ic,.slice ka V.keys.length kc,.slice fa V.filters.length fc] ∧
   Vals P k 0 V.items w (.slice ia V.items.length ic)∧w.ownsRow 0 9 1 (.slice ka V.keys.length kc) V.keys.length (V.keys.map fun s=>.string (strN s))∧w.ownsRow 0 3 1 (.slice fa V.filters.length fc) V.filters.length (V.filters.map fun f:Nat=>.int .i64 (f:Int)):=by
 obtain⟨iv,kv,fv,vs,rfl,hl,hi,hc,hk,hf⟩:=h.parts
 obtain⟨a1,c1,rfl⟩:=ows hi.1
 obtain⟨a2,c2,rfl⟩:=ows hk.1
 obtain⟨a3,c3,rfl⟩:=ows hf.1
 have hi1:=hi.1
 rw[hl]at hi1
 exact⟨a1,c1,a2,c2,a3,c3,by rw[hl];rfl,⟨vs,by rw[hl];exact hi1,hl,hc⟩,hk.1,hf.1⟩
theorem owl{b e size n m c:Nat}{a:Option Addr}{xs:List Value}(h:w.ownsRow b e size (.slice a m c) n xs):n≤9223372036854775807:=by
 rcases h.2 with⟨_,rfl⟩ | ⟨g,c,cur,e1,_,hh,hc1,hc2,_⟩
 ·omega
 ·simp only[maxLen]at hc2;omega
theorem bQ{B:Nat}{a w:World}(h:Below B a w)(n:Nat):Below B a (w.drewN n):=h.trans ⟨rfl,rfl,rfl,Nat.le_refl _,fun _ _=>rfl⟩
def SaO(w:World)(a b:Value):Prop:=Calls Tryz.prog 67 #[a,b] w fun e w'=>e=.returned (.bool true)∧Below w.heap.size w w'
theorem sas{k:Nat}(ih:∀(P Q:Nat→Prop) (w:World) (a b:Value) (V:VT k),VIn P k w a V→VIn Q k w b V→KO V→SaO w a b)
  {P Q:Nat→Prop} {a b:Value} {V:Node (VT k)} (ha:VIn P (k+1) w a V) (hb:VIn Q (k+1) w b V) (hV:KO (k:=k+1) V):SaO w a b:=by
 unfold SaO
 obtain⟨ia,ic,ka,kc,fa,fc,rfl,hai,hak,haf⟩:=ha.split
 obtain⟨ib,jc,kb,lc,fb,gc,rfl,hbi,hbk,hbf⟩:=hb.split
 have hil:V.items.length≤9223372036854775807:=by obtain⟨xs,h1,h2,_⟩:=hai;rw[←h2];exact owl h1
 have hfl:=owl haf
 have hkl:=owl hak
 have HAI:=hide hai
 have HBI:=hide hbi
 have HAK:=hide hak
 have HBK:=hide hbk
 have HAF:=hide haf
 have HBF:=hide hbf
 have hkk:V.keys.length=0∨V.items.length≤V.keys.length:=hV.1
 have HKY:Hid (∀ y∈V.items,KO y):=hV.2
 have IH:=hide ih
 generalize hni:V.items.length=ni at *
 generalize hnk:V.keys.length=nk at *
 generalize hnf:V.filters.length=nf at *
 have HNI:=hide hni
 have HNK:=hide hnk
 have HNF:=hide hnf
 clear ha hb hV hai hbi hak hbk haf hbf ih hni hnk hnf
 generalize (V.kind:Int)=kd at *
 generalize V.n=nn at *
 generalize (V.places:Int)=pp at *
 generalize strN V.text=tx at *
 go_enter Tryz.func67,Tryz.ntmps67
 go_wp2
 have b2:Below w.heap.size w ((w.alloc (.cells #[.int .i64 kd,.int .i64 nn,.int .i64 pp,.string tx,.slice ia ni ic,.slice ka nk kc,.slice fa nf fc] 67)).alloc (.cells #[.int .i64 kd,.int .i64 nn,.int .i64 pp,.string tx,.slice ib ni jc,.slice kb nk lc,.slice fb nf gc] 67)):=((Below.refl _ _).alloc (Nat.le_refl _) _).alloc (by simp) _
 have hx0:((w.alloc (.cells #[.int .i64 kd,.int .i64 nn,.int .i64 pp,.string tx,.slice ia ni ic,.slice ka nk kc,.slice fa nf fc] 67)).alloc (.cells #[.int .i64 kd,.int .i64 nn,.int .i64 pp,.string tx,.slice ib ni jc,.slice kb nk lc,.slice fb nf gc] 67)).heap[w.heap.size]?=some (.cells #[.int .i64 kd,.int .i64 nn,.int .i64 pp,.string tx,.slice ia ni ic,.slice ka nk kc,.slice fa nf fc] 67 (0,0)):=bla _ (bln _ _)
 have hx1:((w.alloc (.cells #[.int .i64 kd,.int .i64 nn,.int .i64 pp,.string tx,.slice ia ni ic,.slice ka nk kc,.slice fa nf fc] 67)).alloc (.cells #[.int .i64 kd,.int .i64 nn,.int .i64 pp,.string tx,.slice ib ni jc,.slice kb nk lc,.slice fb nf gc] 67)).heap[w.heap.size+1]?=some (.cells #[.int .i64 kd,.int .i64 nn,.int .i64 pp,.string tx,.slice ib ni jc,.slice kb nk lc,.slice fb nf gc] 67 (0,0)):=by
  have:=bln (w.alloc (.cells #[.int .i64 kd,.int .i64 nn,.int .i64 pp,.string tx,.slice ia ni ic,.slice ka nk kc,.slice fa nf fc] 67)) (.cells #[.int .i64 kd,.int .i64 nn,.int .i64 pp,.string tx,.slice ib ni jc,.slice kb nk lc,.slice fb nf gc] 67)
  rw[World.size_alloc]at this
  exact this
 generalize (w.alloc (.cells #[.int .i64 kd,.int .i64 nn,.int .i64 pp,.string tx,.slice ia ni ic,.slice ka nk kc,.slice fa nf fc] 67)).alloc (.cells #[.int .i64 kd,.int .i64 nn,.int .i64 pp,.string tx,.slice ib ni jc,.slice kb nk lc,.slice fb nf gc] 67)=w2 at b2 hx0 hx1 ⊢
 have HB2:=hide b2
 have HX0:=hide hx0
 have HX1:=hide hx1
 have hs2:w.heap.size+1<w2.heap.size:=lt_of_block hx1
 clear b2 hx0 hx1
 go_loopw [5] (fun i wr=>∃(m:Nat),m≤nf∧i=.int .i64 m∧Hid (Below w2.heap.size w2 wr)) (fun i _=>nf-(intOf i).toNat)
 case atStart=>exact⟨0,Nat.zero_le _,rfl,Below.refl _ _⟩
 case round =>
  obtain⟨m,hm,rfl,HB⟩:=hrel
  have c6:wr.cell? ⟨w.heap.size,6,none⟩=some (.slice fa nf fc):=by rw[HB.o.cell (by show w.heap.size<_;omega),ceb HX0.o];rfl
  have e6:wr.cell? ⟨w.heap.size+1,6,none⟩=some (.slice fb nf gc):=by rw[HB.o.cell hs2,ceb HX1.o];rfl
  rcases Nat.eq_or_lt_of_le hm with hm | hm
  ·subst hm
   go_wp2
   have HB3:=HB
   clear HB c6 e6
   generalize wr=w3 at *
   go_loopw [6,7] (fun i _ wr=>∃(m:Nat),m≤ni∧i=.int .i64 m∧Hid (Below w2.heap.size w2 wr)) (fun i _ _=>ni-(intOf i).toNat)
   case atStart=>exact⟨0,Nat.zero_le _,rfl,HB3.o⟩
   case round =>
    obtain⟨j,hj,rfl,HB⟩:=hrel
    have c4:wr.cell? ⟨w.heap.size,4,none⟩=some (.slice ia ni ic):=by rw[HB.o.cell (by show w.heap.size<_;omega),ceb HX0.o];rfl
    have e4:wr.cell? ⟨w.heap.size+1,4,none⟩=some (.slice ib ni jc):=by rw[HB.o.cell hs2,ceb HX1.o];rfl
    have c5:wr.cell? ⟨w.heap.size,5,none⟩=some (.slice ka nk kc):=by rw[HB.o.cell (by show w.heap.size<_;omega),ceb HX0.o];rfl
    have e5:wr.cell? ⟨w.heap.size+1,5,none⟩=some (.slice kb nk lc):=by rw[HB.o.cell hs2,ceb HX1.o];rfl
    rcases Nat.eq_or_lt_of_le hj with hj | hj
    ·subst hj
     go_wp2
     go_ret
     exact⟨rfl,HB2.o.trans (HB.o.mono (by omega))⟩
    ·obtain⟨y,hy⟩:∃ y,V.items[j]?=some y:=⟨_,List.getElem?_eq_getElem (by rw[HNI.o];exact hj)⟩
     obtain⟨g,c,x,hge,_,_,hx,hxc⟩:=HAI.o.at hy
     obtain⟨g2,c2,x2,hge2,_,_,hx2,hxc2⟩:=HBI.o.at hy
     rw[HNI.o]at hge hge2
     cases hge
     cases hge2
     have hw3:Below w.heap.size w wr:=HB2.o.trans (HB.o.mono (by omega))
     have hyk:=HKY.o y (List.mem_of_getElem? hy)
     obtain⟨k0,k1,k2,k3,ja,jl,jcc,ka2,kl,kc2,fa2,fl,fc2,hxf⟩:=VIn.form hx
     obtain⟨l0,l1,l2,l3,la,ll,lcc,lb2,ml,mc2,ga2,gl,gc2,hxg⟩:=VIn.form hx2
     have HD:Hid (∀ W,Below w2.heap.size w2 W→W.cell? ⟨g,j*7,none⟩=some (.int .i64 k0)∧W.cell? ⟨g,j*7+1,none⟩=some (.int .i64 k1)∧W.cell? ⟨g,j*7+2,none⟩=some (.int .i64 k2)∧W.cell? ⟨g,j*7+3,none⟩=some (.string k3)∧W.cell? ⟨g,j*7+4,none⟩=some (.slice ja jl jcc)∧W.cell? ⟨g,j*7+5,none⟩=some (.slice ka2 kl kc2)∧W.cell? ⟨g,j*7+6,none⟩=some (.slice fa2 fl fc2)):=fun W hW=>by
      have hold:∀{j:Nat} {u:Value},w.cell? ⟨g,j,none⟩=some u→W.cell? ⟨g,j,none⟩=some u:=fun{j u} h=>by rw[(HB2.o.trans (hW.mono (by omega))).cell (World.block_lt_of_cell? w _ h)];exact h
      exact⟨hold (hxc 0 _ (by rw[hxf];rfl)),hold (hxc 1 _ (by rw[hxf];rfl)),hold (hxc 2 _ (by rw[hxf];rfl)),hold (hxc 3 _ (by rw[hxf];rfl)),hold (hxc 4 _ (by rw[hxf];rfl)),hold (hxc 5 _ (by rw[hxf];rfl)),hold (hxc 6 _ (by rw[hxf];rfl))⟩
     have HE:Hid (∀ W,Below w2.heap.size w2 W→W.cell? ⟨g2,j*7,none⟩=some (.int .i64 l0)∧W.cell? ⟨g2,j*7+1,none⟩=some (.int .i64 l1)∧W.cell? ⟨g2,j*7+2,none⟩=some (.int .i64 l2)∧W.cell? ⟨g2,j*7+3,none⟩=some (.string l3)∧W.cell? ⟨g2,j*7+4,none⟩=some (.slice la ll lcc)∧W.cell? ⟨g2,j*7+5,none⟩=some (.slice lb2 ml mc2)∧W.cell? ⟨g2,j*7+6,none⟩=some (.slice ga2 gl gc2)):=fun W hW=>by
      have hold:∀{j:Nat} {u:Value},w.cell? ⟨g2,j,none⟩=some u→W.cell? ⟨g2,j,none⟩=some u:=fun{j u} h=>by rw[(HB2.o.trans (hW.mono (by omega))).cell (World.block_lt_of_cell? w _ h)];exact h
      exact⟨hold (hxc2 0 _ (by rw[hxg];rfl)),hold (hxc2 1 _ (by rw[hxg];rfl)),hold (hxc2 2 _ (by rw[hxg];rfl)),hold (hxc2 3 _ (by rw[hxg];rfl)),hold (hxc2 4 _ (by rw[hxg];rfl)),hold (hxc2 5 _ (by rw[hxg];rfl)),hold (hxc2 6 _ (by rw[hxg];rfl))⟩
     have HC4:Hid (∀ W,Below w2.heap.size w2 W→W.cell? ⟨w.heap.size,4,none⟩=some (.slice (some ⟨g,0,none⟩) ni ic)∧W.cell? ⟨w.heap.size+1,4,none⟩=some (.slice (some ⟨g2,0,none⟩) ni jc)):=fun W hW=>⟨by rw[hW.cell (by show w.heap.size<_;omega),ceb HX0.o];rfl,by rw[hW.cell hs2,ceb HX1.o];rfl⟩
     have HCALL:Hid (∀ W,Below w2.heap.size w2 W→SaO W x x2):=fun W hW=>by
      have hbw:=HB2.o.trans (hW.mono (by omega))
      exact IH.o P Q W x x2 y (VIn.keep k hx (fun g _ hg=>hbw.block g hg)) (VIn.keep k hx2 (fun g _ hg=>hbw.block g hg)) hyk
     unfold SaO at HCALL
     subst hxf
     subst hxg
     have hjl:IntKind.i64.wrap ((j:Int)+1)=((j+1:Nat):Int):=by rw[IntKind.wrap_i64];omega
     clear hx hx2 hxc hxc2 hyk hw3
     rcases hkk with hkk | hkk
     ·have hnk0:decide ((nk:Int)>0)=false:=by simp;omega
      have hnk1:decide ((0:Int)<(nk:Int))=false:=by simp;omega
      have hnk2:¬ 0<nk:=by omega
      clear hkk
      go_wp2
      go_quiet (fail)
      go_wp2
      have HBq:=hide (bQ HB.o nq)
      generalize wr.drewN nq=wq at *
      clear c4 e4 c5 e5
      refine wrT (fun _ W=>Below w2.heap.size w2 W) (by kernel_rfl) ?_
      intro hD
      have hS:Below w2.heap.size w2 wq.drew:=HBq.o.drew
      refine ti 0 ?_ hD hS ?_
      clear hD hS;intro hD hS;(try simp only[putL])
      refine tk 1 ?_ hD ?_ hS ?_
      rotate_left
      ·intro W hW;obtain⟨_,_,_,hb⟩:=hW;obtain⟨q4,r4⟩:=HC4.o W hb;go_simp;try(with_reducible rfl)
      clear hD hS;intro hD hS;(try simp only[putL])
      refine ti 2 ?_ hD hS ?_
      clear hD hS;intro hD hS;(try simp only[putL])
      refine ti 3 ?_ hD hS ?_
      clear hD hS;intro hD hS;(try simp only[putL])
      refine tk 4 ?_ hD ?_ hS ?_
      rotate_left
      ·intro W hW;obtain⟨_,_,_,hb⟩:=hW;obtain⟨q0,q1,q2,q3,q4,q5,q6⟩:=HD.o W hb;go_simp;try(with_reducible rfl)
      clear hD hS;intro hD hS;(try simp only[putL])
      refine ti 5 ?_ hD hS ?_
      clear hD hS;intro hD hS;(try simp only[putL])
      refine tk 6 ?_ hD ?_ hS ?_
      rotate_left
      ·intro W hW;obtain⟨_,_,_,hb⟩:=hW;obtain⟨q4,r4⟩:=HC4.o W hb;go_simp;try(with_reducible rfl)
      clear hD hS;intro hD hS;(try simp only[putL])
      refine ti 7 ?_ hD hS ?_
      clear hD hS;intro hD hS;(try simp only[putL])
      refine ti 8 ?_ hD hS ?_
      clear hD hS;intro hD hS;(try simp only[putL])
      refine tk 9 ?_ hD ?_ hS ?_
      rotate_left
      ·intro W hW;obtain⟨_,_,_,hb⟩:=hW;obtain⟨q0,q1,q2,q3,q4,q5,q6⟩:=HE.o W hb;go_simp;try(with_reducible rfl)
      clear hD hS;intro hD hS;(try simp only[putL])
      refine on 10 hD fun K' hK=>?_
      go_simp
      refine(HCALL.o _ HBq.o.drew).mono ?_
      rintro e w4 ⟨rfl,b4⟩
      have HB4:Hid (Below w2.heap.size w2 w4):=HBq.o.drew.trans (b4.mono (by simpa using HBq.o.size))
      clear b4
      refine hK.o _ _ HB4.o (fun hD2 hS2=>?_)
      clear hD hS hK K'
      have hD:=hD2
      have hS:=hS2
      clear hD2 hS2
      (try simp only[putL])
      refine on 11 hD fun K' hK=>?_
      go_simp
      refine hK.o _ _ HB4.o (fun hD2 hS2=>?_)
      clear hD hS hK K'
      have hD:=hD2
      have hS:=hS2
      clear hD2 hS2
      (try simp only[putL])
      refine wATd (by kernel_rfl) ?_ _
      clear hD hS
      go_wp2
      go_roundw
      case rel=>exact⟨j+1,by omega,by first | rfl | (congr 1),HB4.o⟩
      case measure=>simp[intOf];omega
     ·obtain⟨s,hs⟩:∃ s,V.keys[j]?=some s:=⟨_,List.getElem?_eq_getElem (by rw[HNK.o];omega)⟩
      have hsm:(V.keys.map fun s=>Value.string (strN s))[j]?=some (.string (strN s)):=by rw[List.getElem?_map,hs];rfl
      obtain⟨g3,c3,hge3,hgc3⟩:=ro HAK.o hsm
      obtain⟨g4,c4',hge4,hgc4⟩:=ro HBK.o hsm
      cases hge3
      cases hge4
      have hw3:Below w.heap.size w wr:=HB2.o.trans (HB.o.mono (by omega))
      have y1:wr.cell? ⟨g3,j,none⟩=some (.string (strN s)):=by rw[hw3.cell (World.block_lt_of_cell? w _ hgc3)];exact hgc3
      have y2:wr.cell? ⟨g4,j,none⟩=some (.string (strN s)):=by rw[hw3.cell (World.block_lt_of_cell? w _ hgc4)];exact hgc4
      generalize strN s=sb at *
      have hnk0:decide ((nk:Int)>0)=true:=by simp;omega
      have hnk1:decide ((0:Int)<(nk:Int))=true:=by simp;omega
      have hnk2:0<nk:=by omega
      clear hsm hs hgc3 hgc4 hw3
      go_wp2
      go_quiet (fail)
      go_wp2
      have HBq:=hide (bQ HB.o nq)
      generalize wr.drewN nq=wq at *
      clear c4 e4 c5 e5 y1 y2
      refine wrT (fun _ W=>Below w2.heap.size w2 W) (by kernel_rfl) ?_
      intro hD
      have hS:Below w2.heap.size w2 wq.drew:=HBq.o.drew
      refine ti 0 ?_ hD hS ?_
      clear hD hS;intro hD hS;(try simp only[putL])
      refine tk 1 ?_ hD ?_ hS ?_
      rotate_left
      ·intro W hW;obtain⟨_,_,_,hb⟩:=hW;obtain⟨q4,r4⟩:=HC4.o W hb;go_simp;try(with_reducible rfl)
      clear hD hS;intro hD hS;(try simp only[putL])
      refine ti 2 ?_ hD hS ?_
      clear hD hS;intro hD hS;(try simp only[putL])
      refine ti 3 ?_ hD hS ?_
      clear hD hS;intro hD hS;(try simp only[putL])
      refine tk 4 ?_ hD ?_ hS ?_
      rotate_left
      ·intro W hW;obtain⟨_,_,_,hb⟩:=hW;obtain⟨q0,q1,q2,q3,q4,q5,q6⟩:=HD.o W hb;go_simp;try(with_reducible rfl)
      clear hD hS;intro hD hS;(try simp only[putL])
      refine ti 5 ?_ hD hS ?_
      clear hD hS;intro hD hS;(try simp only[putL])
      refine tk 6 ?_ hD ?_ hS ?_
      rotate_left
      ·intro W hW;obtain⟨_,_,_,hb⟩:=hW;obtain⟨q4,r4⟩:=HC4.o W hb;go_simp;try(with_reducible rfl)
      clear hD hS;intro hD hS;(try simp only[putL])
      refine ti 7 ?_ hD hS ?_
      clear hD hS;intro hD hS;(try simp only[putL])
      refine ti 8 ?_ hD hS ?_
      clear hD hS;intro hD hS;(try simp only[putL])
      refine tk 9 ?_ hD ?_ hS ?_
      rotate_left
      ·intro W hW;obtain⟨_,_,_,hb⟩:=hW;obtain⟨q0,q1,q2,q3,q4,q5,q6⟩:=HE.o W hb;go_simp;try(with_reducible rfl)
      clear hD hS;intro hD hS;(try simp only[putL])
      refine on 10 hD fun K' hK=>?_
      go_simp
      refine(HCALL.o _ HBq.o.drew).mono ?_
      rintro e w4 ⟨rfl,b4⟩
      have HB4:Hid (Below w2.heap.size w2 w4):=HBq.o.drew.trans (b4.mono (by simpa using HBq.o.size))
      clear b4
      refine hK.o _ _ HB4.o (fun hD2 hS2=>?_)
      clear hD hS hK K'
      have hD:=hD2
      have hS:=hS2
      clear hD2 hS2
      (try simp only[putL])
      refine on 11 hD fun K' hK=>?_
      go_simp
      refine hK.o _ _ HB4.o (fun hD2 hS2=>?_)
      clear hD hS hK K'
      have hD:=hD2
      have hS:=hS2
      clear hD2 hS2
      (try simp only[putL])
      refine wATd (by kernel_rfl) ?_ _
      clear hD hS
      go_wp2
      go_roundw
      case rel=>exact⟨j+1,by omega,by first | rfl | (congr 1),HB4.o⟩
      case measure=>simp[intOf];omega
  ·obtain⟨f,hf⟩:∃ f,V.filters[m]?=some f:=⟨_,List.getElem?_eq_getElem (by rw[HNF.o];exact hm)⟩
   have hfm:(V.filters.map fun f:Nat=>Value.int .i64 (f:Int))[m]?=some (.int .i64 (f:Int)):=by rw[List.getElem?_map,hf];rfl
   obtain⟨g,c,hge,hgc⟩:=ro HAF.o hfm
   obtain⟨g2,c2,hge2,hgc2⟩:=ro HBF.o hfm
   cases hge
   cases hge2
   have HB3:Below w.heap.size w wr:=HB2.o.trans (HB.o.mono (by omega))
   have y1:wr.cell? ⟨g,m,none⟩=some (.int .i64 (f:Int)):=by rw[HB3.cell (World.block_lt_of_cell? w _ hgc)];exact hgc
   have y2:wr.cell? ⟨g2,m,none⟩=some (.int .i64 (f:Int)):=by rw[HB3.cell (World.block_lt_of_cell? w _ hgc2)];exact hgc2
   clear hfm hf hgc hgc2 HB3
   go_wp2
   go_quiet (fail)
   go_wp2
   go_roundw
   case rel=>exact⟨m+1,by omega,by first | rfl | (congr 1),bQ HB.o _⟩
   case measure=>simp[intOf];omega
theorem say:∀(k:Nat) (P Q:Nat→Prop) (w:World) (a b:Value) (V:VT k),VIn P k w a V→VIn Q k w b V→KO V→SaO w a b
 |0,P,Q,w,a,b,V,h,_,_=>h.elim
 |k+1,P,Q,w,a,b,V,ha,hb,hV=>sas (say k) ha hb hV
theorem ay{k:Nat}{P Q:Nat→Prop}{b b':Nat}{Ys:List (VT k)}{ov ov':Value}{root:Int}(ha:Vals P k b Ys w ov)(hb:Vals Q k b' Ys w ov')(hk:∀ y∈Ys,KO y) :
  Calls Tryz.prog 26 #[.agg #[ov,.int .i64 root],.agg #[ov',.int .i64 root]] w fun e w'=>e=.returned (.bool true)∧Below w.heap.size w w':=by
 obtain⟨ia,ic,rfl⟩:=ha.len
 obtain⟨ib,jc,rfl⟩:=hb.len
 have hil:Ys.length≤9223372036854775807:=by obtain⟨xs,h1,h2,_⟩:=ha;rw[←h2];exact owl h1
 have HAI:=hide ha
 have HBI:=hide hb
 have HKY:=hide hk
 generalize hni:Ys.length=ni at *
 have HNI:=hide hni
 clear ha hb hk hni
 go_enter Tryz.func26,Tryz.ntmps26
 go_wp2
 have b2:Below w.heap.size w ((w.alloc (.cells #[.slice ia ni ic,.int .i64 root] 31)).alloc (.cells #[.slice ib ni jc,.int .i64 root] 31)):=((Below.refl _ _).alloc (Nat.le_refl _) _).alloc (by simp) _
 have hx0:((w.alloc (.cells #[.slice ia ni ic,.int .i64 root] 31)).alloc (.cells #[.slice ib ni jc,.int .i64 root] 31)).heap[w.heap.size]?=some (.cells #[.slice ia ni ic,.int .i64 root] 31 (0,0)):=bla _ (bln _ _)
 have hx1:((w.alloc (.cells #[.slice ia ni ic,.int .i64 root] 31)).alloc (.cells #[.slice ib ni jc,.int .i64 root] 31)).heap[w.heap.size+1]?=some (.cells #[.slice ib ni jc,.int .i64 root] 31 (0,0)):=by
  have:=bln (w.alloc (.cells #[.slice ia ni ic,.int .i64 root] 31)) (.cells #[.slice ib ni jc,.int .i64 root] 31)
  rw[World.size_alloc]at this
  exact this
 generalize (w.alloc (.cells #[.slice ia ni ic,.int .i64 root] 31)).alloc (.cells #[.slice ib ni jc,.int .i64 root] 31)=w2 at b2 hx0 hx1 ⊢
 have HB2:=hide b2
 have HX0:=hide hx0
 have HX1:=hide hx1
 have hs2:w.heap.size+1<w2.heap.size:=lt_of_block hx1
 clear b2 hx0 hx1
 go_loopw [5,6] (fun i _ wr=>∃(m:Nat),m≤ni∧i=.int .i64 m∧Hid (Below w2.heap.size w2 wr)) (fun i _ _=>ni-(intOf i).toNat)
 case atStart=>exact⟨0,Nat.zero_le _,rfl,Below.refl _ _⟩
 case round =>
  obtain⟨j,hj,rfl,HB⟩:=hrel
  have c4:wr.cell? ⟨w.heap.size,0,none⟩=some (.slice ia ni ic):=by rw[HB.o.cell (by show w.heap.size<_;omega),ceb HX0.o];rfl
  have e4:wr.cell? ⟨w.heap.size+1,0,none⟩=some (.slice ib ni jc):=by rw[HB.o.cell hs2,ceb HX1.o];rfl
  rcases Nat.eq_or_lt_of_le hj with hj | hj
  ·subst hj
   go_wp2
   go_ret
   exact⟨rfl,HB2.o.trans (HB.o.mono (by omega))⟩
  ·obtain⟨y,hy⟩:∃ y,Ys[j]?=some y:=⟨_,List.getElem?_eq_getElem (by rw[HNI.o];exact hj)⟩
   obtain⟨g,c,x,hge,_,_,hx,hxc⟩:=HAI.o.at hy
   obtain⟨g2,c2,x2,hge2,_,_,hx2,hxc2⟩:=HBI.o.at hy
   rw[HNI.o]at hge hge2
   cases hge
   cases hge2
   have hyk:=HKY.o y (List.mem_of_getElem? hy)
   obtain⟨k0,k1,k2,k3,ja,jl,jcc,ka2,kl,kc2,fa2,fl,fc2,hxf⟩:=VIn.form hx
   obtain⟨l0,l1,l2,l3,la,ll,lcc,lb2,ml,mc2,ga2,gl,gc2,hxg⟩:=VIn.form hx2
   have HD:Hid (∀ W,Below w2.heap.size w2 W→W.cell? ⟨g,j*7,none⟩=some (.int .i64 k0)∧W.cell? ⟨g,j*7+1,none⟩=some (.int .i64 k1)∧W.cell? ⟨g,j*7+2,none⟩=some (.int .i64 k2)∧W.cell? ⟨g,j*7+3,none⟩=some (.string k3)∧W.cell? ⟨g,j*7+4,none⟩=some (.slice ja jl jcc)∧W.cell? ⟨g,j*7+5,none⟩=some (.slice ka2 kl kc2)∧W.cell? ⟨g,j*7+6,none⟩=some (.slice fa2 fl fc2)):=fun W hW=>by
    have hold:∀{j:Nat} {u:Value},w.cell? ⟨g,j,none⟩=some u→W.cell? ⟨g,j,none⟩=some u:=fun{j u} h=>by rw[(HB2.o.trans (hW.mono (by omega))).cell (World.block_lt_of_cell? w _ h)];exact h
    exact⟨hold (hxc 0 _ (by rw[hxf];rfl)),hold (hxc 1 _ (by rw[hxf];rfl)),hold (hxc 2 _ (by rw[hxf];rfl)),hold (hxc 3 _ (by rw[hxf];rfl)),hold (hxc 4 _ (by rw[hxf];rfl)),hold (hxc 5 _ (by rw[hxf];rfl)),hold (hxc 6 _ (by rw[hxf];rfl))⟩
   have HE:Hid (∀ W,Below w2.heap.size w2 W→W.cell? ⟨g2,j*7,none⟩=some (.int .i64 l0)∧W.cell? ⟨g2,j*7+1,none⟩=some (.int .i64 l1)∧W.cell? ⟨g2,j*7+2,none⟩=some (.int .i64 l2)∧W.cell? ⟨g2,j*7+3,none⟩=some (.string l3)∧W.cell? ⟨g2,j*7+4,none⟩=some (.slice la ll lcc)∧W.cell? ⟨g2,j*7+5,none⟩=some (.slice lb2 ml mc2)∧W.cell? ⟨g2,j*7+6,none⟩=some (.slice ga2 gl gc2)):=fun W hW=>by
    have hold:∀{j:Nat} {u:Value},w.cell? ⟨g2,j,none⟩=some u→W.cell? ⟨g2,j,none⟩=some u:=fun{j u} h=>by rw[(HB2.o.trans (hW.mono (by omega))).cell (World.block_lt_of_cell? w _ h)];exact h
    exact⟨hold (hxc2 0 _ (by rw[hxg];rfl)),hold (hxc2 1 _ (by rw[hxg];rfl)),hold (hxc2 2 _ (by rw[hxg];rfl)),hold (hxc2 3 _ (by rw[hxg];rfl)),hold (hxc2 4 _ (by rw[hxg];rfl)),hold (hxc2 5 _ (by rw[hxg];rfl)),hold (hxc2 6 _ (by rw[hxg];rfl))⟩
   have HC4:Hid (∀ W,Below w2.heap.size w2 W→W.cell? ⟨w.heap.size,0,none⟩=some (.slice (some ⟨g,0,none⟩) ni ic)∧W.cell? ⟨w.heap.size+1,0,none⟩=some (.slice (some ⟨g2,0,none⟩) ni jc)):=fun W hW=>⟨by rw[hW.cell (by show w.heap.size<_;omega),ceb HX0.o];rfl,by rw[hW.cell hs2,ceb HX1.o];rfl⟩
   have HCALL:Hid (∀ W,Below w2.heap.size w2 W→SaO W x x2):=fun W hW=>by
    have hbw:=HB2.o.trans (hW.mono (by omega))
    exact say k P Q W x x2 y (VIn.keep k hx (fun g _ hg=>hbw.block g hg)) (VIn.keep k hx2 (fun g _ hg=>hbw.block g hg)) hyk
   unfold SaO at HCALL
   subst hxf
   subst hxg
   have hjl:IntKind.i64.wrap ((j:Int)+1)=((j+1:Nat):Int):=by rw[IntKind.wrap_i64];omega
   clear hx hx2 hxc hxc2 hyk
   go_wp2
   clear c4 e4
   refine wrT (fun _ W=>Below w2.heap.size w2 W) (by kernel_rfl) ?_
   intro hD
   have hS:Below w2.heap.size w2 wr.drew:=HB.o.drew
   refine ti 0 ?_ hD hS ?_
   clear hD hS;intro hD hS;(try simp only[putL])
   refine tk 1 ?_ hD ?_ hS ?_
   rotate_left
   ·intro W hW;obtain⟨_,_,_,hb⟩:=hW;obtain⟨q4,r4⟩:=HC4.o W hb;go_simp;try(with_reducible rfl)
   clear hD hS;intro hD hS;(try simp only[putL])
   refine ti 2 ?_ hD hS ?_
   clear hD hS;intro hD hS;(try simp only[putL])
   refine ti 3 ?_ hD hS ?_
   clear hD hS;intro hD hS;(try simp only[putL])
   refine tk 4 ?_ hD ?_ hS ?_
   rotate_left
   ·intro W hW;obtain⟨_,_,_,hb⟩:=hW;obtain⟨q0,q1,q2,q3,q4,q5,q6⟩:=HD.o W hb;go_simp;try(with_reducible rfl)
   clear hD hS;intro hD hS;(try simp only[putL])
   refine ti 5 ?_ hD hS ?_
   clear hD hS;intro hD hS;(try simp only[putL])
   refine tk 6 ?_ hD ?_ hS ?_
   rotate_left
   ·intro W hW;obtain⟨_,_,_,hb⟩:=hW;obtain⟨q4,r4⟩:=HC4.o W hb;go_simp;try(with_reducible rfl)
   clear hD hS;intro hD hS;(try simp only[putL])
   refine ti 7 ?_ hD hS ?_
   clear hD hS;intro hD hS;(try simp only[putL])
   refine ti 8 ?_ hD hS ?_
   clear hD hS;intro hD hS;(try simp only[putL])
   refine tk 9 ?_ hD ?_ hS ?_
   rotate_left
   ·intro W hW;obtain⟨_,_,_,hb⟩:=hW;obtain⟨q0,q1,q2,q3,q4,q5,q6⟩:=HE.o W hb;go_simp;try(with_reducible rfl)
   clear hD hS;intro hD hS;(try simp only[putL])
   refine on 10 hD fun K' hK=>?_
   go_simp
   refine(HCALL.o _ HB.o.drew).mono ?_
   rintro e w4 ⟨rfl,b4⟩
   have HB4:Hid (Below w2.heap.size w2 w4):=HB.o.drew.trans (b4.mono (by simpa using HB.o.size))
   clear b4
   refine hK.o _ _ HB4.o (fun hD2 hS2=>?_)
   clear hD hS hK K'
   have hD:=hD2
   have hS:=hS2
   clear hD2 hS2
   (try simp only[putL])
   refine on 11 hD fun K' hK=>?_
   go_simp
   refine hK.o _ _ HB4.o (fun hD2 hS2=>?_)
   clear hD hS hK K'
   have hD:=hD2
   have hS:=hS2
   clear hD2 hS2
   (try simp only[putL])
   refine wATd (by kernel_rfl) ?_ _
   clear hD hS
   go_wp2
   go_roundw
   case rel=>exact⟨j+1,by omega,by first | rfl | (congr 1),HB4.o⟩
   case measure=>simp[intOf];omega
end
end Go.Proofs.YtgkljcmjnphpeaaGreatDoor
