import Derived.Test.YtgkljcmjnphpeaaGreatDoorK13
set_option linter.unusedVariables false
set_option linter.unusedSimpArgs false
set_option maxHeartbeats 4000000
set_option maxRecDepth 100000
namespace Go.Proofs.YtgkljcmjnphpeaaGreatDoor
open Go.RowKit
section
variable{w w':World}
theorem strK(S:ByteArray)(c:List UInt8):(S.toList==c)=decide (S=⟨c.toArray⟩):=by
 rw[Bool.eq_iff_iff,beq_iff_eq,decide_eq_true_iff,ByteArray.toList_eq]
 exact⟨fun h=>ByteArray.ext (by rw[←h,Array.toArray_toList]),fun h=>by rw[h]⟩
theorem isSo{P:Nat→Prop}{k:Nat}{v:Value}{V:Node (VT k)}(h:VIn P (k+1) w v V)(hfew:V.keys.length≤200000)(hff:V.filters.length≤200000) :
  Calls Tryz.prog 233 #[v] w fun e w'=>e=.returned (.bool (Fo.streamOk V))∧Below w.heap.size w w':=by
 obtain⟨iv,kv,fv,vs,hv,hvl,hiv,hvs,hkv,hfv⟩:=h.parts
 have HD:Hid (∀ W:World,Below w.heap.size w W→Calls Tryz.prog 232 #[v] W fun e w'=>e=.returned (.bool (Fo.dictOk V.keys V.items.length))∧Below W.heap.size W w'):=
  fun W b=>iDo (VIn.keep (k+1) h (fun g _ hg=>b.block g hg)) hfew
 obtain⟨ia,ic,rfl⟩:=ows hiv.1
 obtain⟨ka,kc,rfl⟩:=ows hkv.1
 obtain⟨fa,fc,rfl⟩:=ows hfv.1
 have HK:=hide hkv
 have HFV:=hide hfv
 clear h hfv hiv hkv hvs
 obtain⟨R,hR⟩:∃ R,Fo.streamOk V=R:=⟨_,rfl⟩
 rw[hR]
 have HR:=hide hR
 clear hR
 unfold Fo.streamOk at HR
 obtain⟨n,hn⟩:∃ n,V.keys.length=n:=⟨_,rfl⟩
 obtain⟨f,hf⟩:∃ f,V.filters.length=f:=⟨_,rfl⟩
 have hn2:n≤200000:=by omega
 have hf2:f≤200000:=by omega
 rw[hn,hf]at hv
 rw[hf]at HR
 unfold nV at hv
 generalize (V.kind:Int)=kd at hv
 generalize V.n=nn at hv
 generalize (V.places:Int)=pp at hv
 generalize strN V.text=tt at hv HR
 generalize vs.length=il at hv
 subst hv
 have HN:=hide hn
 have HF:=hide hf
 clear hn hf hfew hff hvl
 have B1:Hid (Below w.heap.size w (w.alloc (.cells #[.int .i64 kd,.int .i64 nn,.int .i64 pp,.string tt,.slice ia il ic,.slice ka n kc,.slice fa f fc] 67))):=(Below.refl _ _).alloc (Nat.le_refl _) _
 have HBX:Hid ((w.alloc (.cells #[.int .i64 kd,.int .i64 nn,.int .i64 pp,.string tt,.slice ia il ic,.slice ka n kc,.slice fa f fc] 67)).heap[w.heap.size]?=some (.cells #[.int .i64 kd,.int .i64 nn,.int .i64 pp,.string tt,.slice ia il ic,.slice ka n kc,.slice fa f fc] 67 (0,0))):=bln _ _
 have HD1:=hide (HD.o _ B1.o)
 clear HD
 cases hd:Fo.dictOk V.keys V.items.length with
 |false =>
  rw[hd]at HD1 HR
  have HRF:Hid (R=false):=HR.o.symm
  clear hd HR
  go_enter Tryz.func233,Tryz.ntmps233
  go_wp2_with fail
  refine HD1.o.mono ?_
  rintro e w2 ⟨rfl,b2⟩
  have B2:=hide (B1.o.trans (b2.mono (by simp)))
  clear b2
  go_wp2
  go_ret
  exact⟨by rw[HRF.o];rfl,B2.o⟩
 |true =>
  rw[hd,Bool.true_and]at HR
  rw[hd]at HD1
  clear hd
  go_enter Tryz.func233,Tryz.ntmps233
  go_wp2_with fail
  refine HD1.o.mono ?_
  rintro e w2 ⟨rfl,b2⟩
  have B2:=hide (B1.o.trans (b2.mono (by simp)))
  have hbx:w2.heap[w.heap.size]?=some (.cells #[.int .i64 kd,.int .i64 nn,.int .i64 pp,.string tt,.slice ia il ic,.slice ka n kc,.slice fa f fc] 67 (0,0)):=by
   rw[b2.block _ (by simp)];exact HBX.o
  have d3:w2.cell? ⟨w.heap.size,3,none⟩=some (.string tt):=ceb hbx
  have d5:w2.cell? ⟨w.heap.size,5,none⟩=some (.slice ka n kc):=ceb hbx
  have d6:w2.cell? ⟨w.heap.size,6,none⟩=some (.slice fa f fc):=ceb hbx
  clear b2 hbx HBX HD1 B1
  by_cases ht:tt.size≤20000
  ·rw[decide_eq_true ht,Bool.true_and]at HR
   by_cases hf4:f≤4
   ·rw[decide_eq_true hf4,Bool.true_and]at HR
    go_wp2
    go_loopw [25] (fun i wr=>∃(m:Nat),m≤n∧i=.int .i64 m∧wr=w2∧Hid ((((V.keys.drop m).all fun s => !Fo.barred (strN s))&&(V.filters.all fun f=>decide (1≤f∧f≤4)))=R)) (fun i _=>n-(intOf i).toNat)
    case atStart=>exact⟨0,Nat.zero_le _,rfl,rfl,HR⟩
    case round =>
     obtain⟨m,hm,rfl,rfl,HR2⟩:=hrel
     rcases Nat.eq_or_lt_of_le hm with hm | hm
     ·subst hm
      have e2:V.keys.drop m=[]:=List.drop_of_length_le (by rw[HN.o];exact Nat.le_refl _)
      have HR3:Hid ((V.filters.all fun f=>decide (1≤f∧f≤4))=R):=by
       unfold Hid
       rw[←HR2.o,e2];rfl
      clear HR2 HR e2
      go_wp2
      go_loopw [43] (fun i wx=>∃(j:Nat),j≤f∧i=.int .i64 j∧wx=wr∧Hid (((V.filters.drop j).all fun f=>decide (1≤f∧f≤4))=R)) (fun i _=>f-(intOf i).toNat)
      case atStart=>exact⟨0,Nat.zero_le _,rfl,rfl,HR3⟩
      case round =>
       obtain⟨j,hj,rfl,rfl,HR4⟩:=hrel
       rcases Nat.eq_or_lt_of_le hj with hj | hj
       ·subst hj
        have e2:V.filters.drop j=[]:=List.drop_of_length_le (by rw[HF.o];exact Nat.le_refl _)
        have HR5:Hid (R=true):=by
         unfold Hid
         rw[←HR4.o,e2];rfl
        clear HR4 HR3 e2
        go_wp2
        go_ret
        exact⟨by rw[HR5.o];rfl,B2.o⟩
       ·obtain⟨x,hx⟩:∃ x,V.filters[j]?=some x:=⟨_,List.getElem?_eq_getElem (by rw[HF.o];exact hj)⟩
        have hdr:V.filters.drop j=x::V.filters.drop (j+1):=by
         rw[List.drop_eq_getElem_cons (by rw[HF.o];exact hj)];congr 1
         rw[List.getElem?_eq_getElem (by rw[HF.o];exact hj)]at hx;simpa using hx
        rw[hdr,List.all_cons]at HR4
        obtain⟨g,c,hge,hgc⟩:=ro HFV.o.1 (show(V.filters.map fun f:Nat=>Value.int .i64 (f:Int))[j]?=some (.int .i64 (x:Int))by rw[List.getElem?_map,hx];rfl)
        rw[HF.o]at hge
        cases hge
        have dk:wr.cell? ⟨g,j,none⟩=some (.int .i64 (x:Int)):=by
         rw[B2.o.cell (World.block_lt_of_cell? w _ hgc)];exact hgc
        clear hx hdr hgc
        by_cases hx4:1≤x∧x≤4
        ·rw[decide_eq_true hx4,Bool.true_and]at HR4
         go_wp2_with fail
         refine(wiy _ 1 4 _ (by omega) (by omega)).mono ?_
         rintro e w3 ⟨rfl,hw⟩
         have hw:=hw.symm
         subst hw
         go_wp2
         go_roundw
         case rel=>first | exact⟨j+1,by omega,by first | rfl | (congr 1),rfl,HR4⟩ | exact⟨j+1,by omega,by first | rfl | (congr 1),trivial,HR4⟩
         case measure=>simp[intOf];omega
        ·rw[decide_eq_false hx4,Bool.false_and]at HR4
         have HR5:Hid (R=false):=HR4.o.symm
         clear HR4
         go_wp2_with fail
         refine(win _ 1 4 _ (by omega)).mono ?_
         rintro e w3 ⟨rfl,hw⟩
         have hw:=hw.symm
         subst hw
         go_wp2
         go_ret
         exact⟨by rw[HR5.o];rfl,B2.o⟩
     ·obtain⟨s,hs⟩:∃ s,V.keys[m]?=some s:=⟨_,List.getElem?_eq_getElem (by rw[HN.o];exact hm)⟩
      have hdr:V.keys.drop m=s::V.keys.drop (m+1):=by
       rw[List.drop_eq_getElem_cons (by rw[HN.o];exact hm)];congr 1
       rw[List.getElem?_eq_getElem (by rw[HN.o];exact hm)]at hs;simpa using hs
      rw[hdr,List.all_cons]at HR2
      obtain⟨g,c,hge,hgc⟩:=ro HK.o.1 (show(V.keys.map fun s=>Value.string (strN s))[m]?=some (.string (strN s))by rw[List.getElem?_map,hs];rfl)
      rw[HN.o]at hge
      cases hge
      have dk:wr.cell? ⟨g,m,none⟩=some (.string (strN s)):=by
       rw[B2.o.cell (World.block_lt_of_cell? w _ hgc)];exact hgc
      clear hs hdr hgc
      generalize strN s=S at *
      by_cases h1:S={ data:=#[76,101,110,103,116,104] }
      ·have HR5:Hid (R=false):=by unfold Hid;rw[←HR2.o];unfold Fo.barred;rw[decide_eq_true h1];rfl
       have c1:(S.toList==[76,101,110,103,116,104])=true:=by rw[strK,decide_eq_true_eq];exact h1
       clear HR2 h1
       go_wp2
       go_ret
       exact⟨by rw[HR5.o];rfl,B2.o⟩
      ·have c1:(S.toList==[76,101,110,103,116,104])=false:=by rw[strK,decide_eq_false_iff_not];exact h1
       by_cases h2:S={ data:=#[70,105,108,116,101,114] }
       ·have HR5:Hid (R=false):=by unfold Hid;rw[←HR2.o];unfold Fo.barred;rw[decide_eq_true h2,Bool.or_true];rfl
        have c2:(S.toList==[70,105,108,116,101,114])=true:=by rw[strK,decide_eq_true_eq];exact h2
        clear HR2 h1 h2
        go_wp2
        go_ret
        exact⟨by rw[HR5.o];rfl,B2.o⟩
       ·have c2:(S.toList==[70,105,108,116,101,114])=false:=by rw[strK,decide_eq_false_iff_not];exact h2
        by_cases h3:S={ data:=#[68,101,99,111,100,101,80,97,114,109,115] }
        ·have HR5:Hid (R=false):=by unfold Hid;rw[←HR2.o];unfold Fo.barred;rw[decide_eq_true h3,Bool.or_true];rfl
         have c3:(S.toList==[68,101,99,111,100,101,80,97,114,109,115])=true:=by rw[strK,decide_eq_true_eq];exact h3
         clear HR2 h1 h2 h3
         go_wp2
         go_ret
         exact⟨by rw[HR5.o];rfl,B2.o⟩
        ·have c3:(S.toList==[68,101,99,111,100,101,80,97,114,109,115])=false:=by rw[strK,decide_eq_false_iff_not];exact h3
         have hb:Fo.barred S=false:=by unfold Fo.barred;rw[decide_eq_false h1,decide_eq_false h2,decide_eq_false h3];rfl
         rw[hb,Bool.not_false,Bool.true_and]at HR2
         clear h1 h2 h3 hb
         go_wp2
         go_roundw
         case rel=>first | exact⟨m+1,by omega,by first | rfl | (congr 1),rfl,HR2⟩ | exact⟨m+1,by omega,by first | rfl | (congr 1),trivial,HR2⟩
         case measure=>simp[intOf];omega
   ·have HRF:Hid (R=false):=by unfold Hid;rw[←HR.o,decide_eq_false hf4];rfl
    clear HR
    go_wp2
    go_ret
    exact⟨by rw[HRF.o];rfl,B2.o⟩
  ·have HRF:Hid (R=false):=by unfold Hid;rw[←HR.o,decide_eq_false ht];rfl
   clear HR
   go_wp2
   go_ret
   exact⟨by rw[HRF.o];rfl,B2.o⟩
end
end Go.Proofs.YtgkljcmjnphpeaaGreatDoor
