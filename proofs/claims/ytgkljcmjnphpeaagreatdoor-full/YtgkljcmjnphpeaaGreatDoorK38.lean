import Derived.Test.YtgkljcmjnphpeaaGreatDoorK37
set_option linter.unusedVariables false
set_option linter.unusedSimpArgs false
set_option maxHeartbeats 4000000
set_option maxRecDepth 100000
namespace Go.Proofs.YtgkljcmjnphpeaaGreatDoor
open Go.RowKit
section
variable{w w':World}{B bf:Nat}{ov pv:Value}{out pl:List Nat}
theorem wdo{k E:Nat}(ih:WO k){P:Nat→Prop}{v:Value}{V:Node (VT k)}(he:Env E w)(hEB:E≤B)(h:OutW B bf w ov pv out pl)(hv:VIn P (k+1) w v V)(hok:WOk (k:=k+1) V)(hkl:V.keys.length=V.items.length)(hlen:out.length+Fo.wlen (k:=k+1) V≤500000000) :
  Calls Tryz.prog 134 #[.pointer (some ⟨bf,0,none⟩),v] w (WrOut B bf w pv out pl (60::60::(Fo.wjoin ((V.keys.zip V.items).map fun z=>Fo.wname z.1++(32::Fo.wv z.2))++[62,62]))):=by
 obtain⟨ia,ic,ka,kc,fa,fc,rfl,hai,hak,haf⟩:=hv.split
 have hil:V.items.length≤9223372036854775807:=by obtain⟨xs,h1,h2,_⟩:=hai;rw[←h2];exact owl h1
 have HAI:=hide hai
 have HIH:=hide ih
 have HEV:=hide he
 have HIT:Hid (∀ y∈V.items,WOk y):=hok.2.2.2.2.2.2
 have HAK:=hide hak
 have HKY:Hid (∀ s∈V.keys,∀ x∈s,x<256):=hok.2.2.2.2.2.1
 have HLE:Hid (out.length+100+((V.keys.zip V.items).map fun z=>(10+3*z.1.length)+(10+Fo.wlen z.2)).sum≤500000000):=by
  unfold Hid
  have:Fo.wlen (k:=k+1) V=100+4*V.text.length+(V.items.map fun y=>10+Fo.wlen y).sum+(V.keys.map fun s=>10+3*s.length).sum:=rfl
  have hz:=Fo.sum_zip (f:=fun s:List Nat=>10+3*s.length) (g:=fun y=>10+Fo.wlen (k:=k) y) V.keys V.items
  omega
 have HWL:Hid (∀ m,(Fo.wjoin (((V.keys.zip V.items).take m).map fun z=>Fo.wname z.1++(32::Fo.wv z.2))).length≤(((V.keys.zip V.items).take m).map fun z=>(10+3*z.1.length)+(10+Fo.wlen z.2)).sum):=fun m=>by
  have h1:=Fo.wjoin_len (((V.keys.zip V.items).take m).map fun z=>Fo.wname z.1++(32::Fo.wv z.2))
  rw[List.map_map]at h1
  refine Nat.le_trans h1 (Fo.sum_le _ fun y hy=>?_)
  have h2:=Fo.wv_len (HIT.o y.2 (List.of_mem_zip (List.mem_of_mem_take hy)).2)
  have h3:=Fo.wname_len y.1
  simp only[Function.comp,List.length_append,List.length_cons]
  omega
 have HZL:Hid ((V.keys.zip V.items).length=V.items.length):=by unfold Hid;rw[List.length_zip,hkl,Nat.min_self]
 rw[hkl]at HAK ⊢
 generalize hni:V.items.length=n at *
 have HN:=hide hni
 clear hv hok hlen hai hak haf ih he hni hkl
 generalize (V.kind:Int)=kd at *
 generalize V.n=nn at *
 generalize (V.places:Int)=pp at *
 generalize strN V.text=tx at *
 generalize V.filters.length=nf at *
 have hb1:Below w.heap.size w (w.alloc (.cells #[.int .i64 kd,.int .i64 nn,.int .i64 pp,.string tx,.slice ia n ic,.slice ka n kc,.slice fa nf fc] 67)):=(Below.refl _ _).alloc (Nat.le_refl _) _
 have hx0:(w.alloc (.cells #[.int .i64 kd,.int .i64 nn,.int .i64 pp,.string tx,.slice ia n ic,.slice ka n kc,.slice fa nf fc] 67)).heap[w.heap.size]?=some (.cells #[.int .i64 kd,.int .i64 nn,.int .i64 pp,.string tx,.slice ia n ic,.slice ka n kc,.slice fa nf fc] 67 (0,0)):=bln _ _
 have h1:=h.alloc (.cells #[.int .i64 kd,.int .i64 nn,.int .i64 pp,.string tx,.slice ia n ic,.slice ka n kc,.slice fa nf fc] 67)
 have HP:=hide (wput1 h1 { data:=#[60,60] } (by have:=HLE.o;show _+2≤_;omega))
 rw[World.size_alloc]at HP
 have HBE:Hid (∀ W,OutK B bf w W→Env E W):=fun W k=>HEV.o.outk hEB h k
 have HOW:=hide h
 go_enter Tryz.func134,Tryz.ntmps134
 go_wp2_with fail
 refine HP.o.mono ?_
 rintro e w1 ⟨rfl,ov1,h1b,k1⟩
 have hxb:w1.heap[w.heap.size]?=some (.cells #[.int .i64 kd,.int .i64 nn,.int .i64 pp,.string tx,.slice ia n ic,.slice ka n kc,.slice fa nf fc] 67 (0,0)):=k1.block _ _ (by simp;have:=h.lt;omega) hx0 (Or.inr fun c fz e=>by cases e)
 have K1:Hid (OutK B bf w w1):=((OutK.refl B bf w).alloc _).trans k1
 have H1:=hide h1b
 have c4:w1.cell? ⟨w.heap.size,4,none⟩=some (.slice ia n ic):=ceb hxb
 have HXB:=hide hxb
 have hbfw:=h.lt
 clear hb1 hx0 h1 h1b k1 HP hxb h
 go_wp2_with fail
 go_loopw [4,5,12] (fun _ _ iv wr=>∃(m:Nat) (v:Value),m≤n∧iv=.int .i64 (m:Int)∧Hid (OutW B bf wr v pv (out++(60::60::Fo.wjoin (((V.keys.zip V.items).take m).map fun z=>Fo.wname z.1++(32::Fo.wv z.2)))) pl)∧Hid (OutK B bf w1 wr)) (fun _ _ iv _=>n-(intOf iv).toNat)
 case atStart=>exact⟨0,ov1,Nat.zero_le _,rfl,H1.o,OutK.refl _ _ _⟩
 case round =>
  obtain⟨m,v,hm,rfl,HW,HK⟩:=hrel
  have hwl:=HWL.o m
  rcases Nat.eq_or_lt_of_le hm with hm | hm
  ·subst hm
   have htk:(V.keys.zip V.items).take m=V.keys.zip V.items:=List.take_of_length_le (by rw[HZL.o];exact Nat.le_refl _)
   rw[htk]at HW hwl
   have hlw:(out++(60::60::Fo.wjoin ((V.keys.zip V.items).map fun z=>Fo.wname z.1++(32::Fo.wv z.2)))).length+2≤500000000:=by
    have:=HLE.o
    simp only[List.length_append,List.length_cons]
    omega
   have HP2:=hide (wput1 HW.o { data:=#[62,62] } hlw)
   have HRS:Hid (out++(60::60::Fo.wjoin ((V.keys.zip V.items).map fun z=>Fo.wname z.1++(32::Fo.wv z.2)))++bl { data:=#[62,62] }=out++(60::60::(Fo.wjoin ((V.keys.zip V.items).map fun z=>Fo.wname z.1++(32::Fo.wv z.2))++[62,62]))):=by
    unfold Hid
    simp[bl]
   go_wp2_with fail
   refine HP2.o.mono ?_
   rintro e w9 ⟨rfl,ov9,h9,k9⟩
   have H9:=hide h9
   have K9:=hide (K1.o.trans (HK.o.trans k9))
   clear h9 k9 HP2
   go_wp2
   go_end0
   exact⟨rfl,ov9,by rw[←HRS.o];exact H9.o,K9.o⟩
  ·obtain⟨y,hy⟩:∃ y,V.items[m]?=some y:=⟨_,List.getElem?_eq_getElem (by rw[HN.o];exact hm)⟩
   obtain⟨s,hs⟩:∃ s,V.keys[m]?=some s:=⟨_,List.getElem?_eq_getElem (by have:=HZL.o;rw[List.length_zip]at this;omega)⟩
   have hz:(V.keys.zip V.items)[m]?=some (s,y):=by rw[List.getElem?_zip_eq_some];exact⟨hs,hy⟩
   have hst:=Fo.sum_take (fun z:List Nat × VT k=>(10+3*z.1.length)+(10+Fo.wlen z.2)) (V.keys.zip V.items) m (s,y) hz
   simp only[]at hst
   have hwt:=Fo.wjoin_take (fun z:List Nat × VT k=>Fo.wname z.1++(32::Fo.wv z.2)) (V.keys.zip V.items) m (s,y) hz
   have hsb:=HKY.o s (List.mem_of_getElem? hs)
   have hsm:(V.keys.map fun s=>Value.string (strN s))[m]?=some (.string (strN s)):=by rw[List.getElem?_map,hs];rfl
   obtain⟨gk,ck,hgk,_⟩:=ro HAK.o hsm
   cases hgk
   have HAKW:Hid (∀ W,OutK B bf w W→W.cell? ⟨gk,m,none⟩=some (.string (strN s))):=fun W kW=>by
    obtain⟨g',c',e',hc'⟩:=ro (owk HAK.o kW.toKept (by decide) (fun g hg hm=>by
     simp at hm
     subst hm
     obtain⟨_,c,f,hc⟩:=owr HAK.o g hg
     rw[HOW.o.blk]at hc
     simp at hc)) hsm
    cases e'
    exact hc'
   obtain⟨g,c,x,hge,_,_,hx,hxc⟩:=(HAI.o.outk HOW.o (K1.o.trans HK.o)).at hy
   rw[HN.o]at hge
   cases hge
   have hyo:=HIT.o y (List.mem_of_getElem? hy)
   obtain⟨k0,k1,k2,k3,ja,jl,jc,ka2,kl,kc2,fa2,fl,fc2,hxf⟩:=VIn.form hx
   subst hxf
   have d0:wr.cell? ⟨g,m*7,none⟩=some (.int .i64 k0):=hxc 0 _ rfl
   have d1:wr.cell? ⟨g,m*7+1,none⟩=some (.int .i64 k1):=hxc 1 _ rfl
   have d2:wr.cell? ⟨g,m*7+2,none⟩=some (.int .i64 k2):=hxc 2 _ rfl
   have d3:wr.cell? ⟨g,m*7+3,none⟩=some (.string k3):=hxc 3 _ rfl
   have d4:wr.cell? ⟨g,m*7+4,none⟩=some (.slice ja jl jc):=hxc 4 _ rfl
   have d5:wr.cell? ⟨g,m*7+5,none⟩=some (.slice ka2 kl kc2):=hxc 5 _ rfl
   have d6:wr.cell? ⟨g,m*7+6,none⟩=some (.slice fa2 fl fc2):=hxc 6 _ rfl
   have hlw:(out++(60::60::Fo.wjoin (((V.keys.zip V.items).take m).map fun z=>Fo.wname z.1++(32::Fo.wv z.2)))).length+1+(3*s.length+2)+Fo.wlen y≤500000000:=by
    have:=HLE.o
    simp only[List.length_append,List.length_cons]
    omega
   have h2:=HW.o.alloc (.cells #[.int .i64 k0,.int .i64 k1,.int .i64 k2,.string k3,.slice ja jl jc,.slice ka2 kl kc2,.slice fa2 fl fc2] 67)
   have k2':OutK B bf w1 (wr.alloc (.cells #[.int .i64 k0,.int .i64 k1,.int .i64 k2,.string k3,.slice ja jl jc,.slice ka2 kl kc2,.slice fa2 fl fc2] 67)):=HK.o.alloc _
   have hxi:(wr.alloc (.cells #[.int .i64 k0,.int .i64 k1,.int .i64 k2,.string k3,.slice ja jl jc,.slice ka2 kl kc2,.slice fa2 fl fc2] 67)).heap[wr.heap.size]?=some (.cells #[.int .i64 k0,.int .i64 k1,.int .i64 k2,.string k3,.slice ja jl jc,.slice ka2 kl kc2,.slice fa2 fl fc2] 67 (0,0)):=bln _ _
   have hxv:VIn P k (wr.alloc (.cells #[.int .i64 k0,.int .i64 k1,.int .i64 k2,.string k3,.slice ja jl jc,.slice ka2 kl kc2,.slice fa2 fl fc2] 67)) (.agg #[.int .i64 k0,.int .i64 k1,.int .i64 k2,.string k3,.slice ja jl jc,.slice ka2 kl kc2,.slice fa2 fl fc2]) y:=VIn.outk k hx HW.o ((OutK.refl B bf wr).alloc _)
   have HBL:=hide (wo0 h2 m (by omega) (by omega))
   have H2:=hide h2
   have K2:=hide k2'
   have HXI:=hide hxi
   have HXV:=hide hxv
   have HWT:=hide hwt
   have h32:(if m=0 then[]else[32]:List Nat).length≤1:=by split<;>simp
   have hssz:(strN s).size=s.length:=stNs s
   have hbls:bl (strN s)=s:=bsN s hsb
   clear hx hxc hy h2 k2' hxi hxv hst hwl hs hz hsm
   go_wp2_with fail
   refine HBL.o.mono ?_
   rintro e w3 ⟨rfl,ov3,h3,kk3⟩
   have hxi3:w3.heap[wr.heap.size]?=some (.cells #[.int .i64 k0,.int .i64 k1,.int .i64 k2,.string k3,.slice ja jl jc,.slice ka2 kl kc2,.slice fa2 fl fc2] 67 (0,0)):=kk3.block _ _ (by simp;have:=HW.o.lt;omega) HXI.o (Or.inr fun c fz e=>by cases e)
   have kb3:OutK B bf w1 w3:=K2.o.trans kk3
   have hxb3:w3.heap[w.heap.size]?=some (.cells #[.int .i64 kd,.int .i64 nn,.int .i64 pp,.string tx,.slice (some ⟨g,0,none⟩) n ic,.slice (some ⟨gk,0,none⟩) n kc,.slice fa nf fc] 67 (0,0)):=kb3.block _ _ (by simp;omega) HXB.o (Or.inr fun c fz e=>by cases e)
   have q5:w3.cell? ⟨w.heap.size,5,none⟩=some (.slice (some ⟨gk,0,none⟩) n kc):=ceb hxb3
   have qk:w3.cell? ⟨gk,m,none⟩=some (.string (strN s)):=HAKW.o w3 (K1.o.trans kb3)
   have HNM:=hide (wno h3 (strN s) (by rw[List.length_append,hssz];omega))
   rw[hbls]at HNM
   have HXI3:=hide hxi3
   have HXV3:=hide (VIn.outk k HXV.o H2.o kk3)
   have H3:=hide h3
   have K3:=hide kb3
   clear h3 kk3 hxi3 kb3 hxb3 HBL hbls
   generalize strN s=ss at *
   go_wp2_with fail
   refine HNM.o.mono ?_
   rintro e w4 ⟨rfl,ov4,h4,kk4⟩
   have hxi4:w4.heap[wr.heap.size]?=some (.cells #[.int .i64 k0,.int .i64 k1,.int .i64 k2,.string k3,.slice ja jl jc,.slice ka2 kl kc2,.slice fa2 fl fc2] 67 (0,0)):=kk4.block _ _ (by simp;have:=HW.o.lt;omega) HXI3.o (Or.inr fun c fz e=>by cases e)
   have HPB:=hide (wput1 h4 { data:=#[32] } (by have:=Fo.wname_len s;rw[List.length_append,List.length_append];show _+1≤_;omega))
   have HXI4:=hide hxi4
   have HXV4:=hide (VIn.outk k HXV3.o H3.o kk4)
   have H4:=hide h4
   have K4:=hide (K3.o.trans kk4)
   clear h4 kk4 hxi4 HNM
   go_wp2_with fail
   refine HPB.o.mono ?_
   rintro e w6 ⟨rfl,ov6,h6,kk6⟩
   have hxi6:w6.heap[wr.heap.size]?=some (.cells #[.int .i64 k0,.int .i64 k1,.int .i64 k2,.string k3,.slice ja jl jc,.slice ka2 kl kc2,.slice fa2 fl fc2] 67 (0,0)):=kk6.block _ _ (by simp;have:=HW.o.lt;omega) HXI4.o (Or.inr fun c fz e=>by cases e)
   have HV:=hide (HIH.o B bf E w6 ov6 pv _ pl P _ y (HBE.o w6 (K1.o.trans (K4.o.trans kk6))) hEB h6 (VIn.outk k HXV4.o H4.o kk6) hyo (by have:=Fo.wname_len s;rw[List.length_append,List.length_append,List.length_append,bll];show _+_+_+1+_≤_;omega))
   have K6:=hide (K4.o.trans kk6)
   have e0:w6.cell? ⟨wr.heap.size,0,none⟩=some (.int .i64 k0):=ceb hxi6
   have e1:w6.cell? ⟨wr.heap.size,1,none⟩=some (.int .i64 k1):=ceb hxi6
   have e2:w6.cell? ⟨wr.heap.size,2,none⟩=some (.int .i64 k2):=ceb hxi6
   have e3:w6.cell? ⟨wr.heap.size,3,none⟩=some (.string k3):=ceb hxi6
   have e4:w6.cell? ⟨wr.heap.size,4,none⟩=some (.slice ja jl jc):=ceb hxi6
   have e5:w6.cell? ⟨wr.heap.size,5,none⟩=some (.slice ka2 kl kc2):=ceb hxi6
   have e6:w6.cell? ⟨wr.heap.size,6,none⟩=some (.slice fa2 fl fc2):=ceb hxi6
   clear h6 kk6 hxi6 HPB
   go_wp2_with fail
   refine HV.o.mono ?_
   rintro e w7 ⟨rfl,ov7,h7,k7⟩
   have H7:=hide h7
   have K7:=hide (K6.o.trans k7)
   clear h7 k7 HV
   go_wp2
   go_roundw
   case rel =>
    have hr:out++(60::60::Fo.wjoin (((V.keys.zip V.items).take (m+1)).map fun z=>Fo.wname z.1++(32::Fo.wv z.2)))=out++(60::60::Fo.wjoin (((V.keys.zip V.items).take m).map fun z=>Fo.wname z.1++(32::Fo.wv z.2)))++(if m=0 then[]else[32])++Fo.wname s++bl { data:=#[32] }++Fo.wv y:=by rw[HWT.o];simp[bl]
    exact⟨m+1,ov7,by omega,by first | rfl | (congr 1),by rw[hr];exact H7.o,K7.o⟩
   case measure=>simp[intOf];omega
theorem wvn{E:Nat}{nn:Int}{pp:Int}{tx:ByteArray}{ia ka fa:Option Addr}{ni ic nk kc nf fc:Nat}(he:Env E w)(hEB:E≤B)(h:OutW B bf w ov pv out pl)(hlen:out.length+100≤500000000) :
  Calls Tryz.prog 132 #[.pointer (some ⟨bf,0,none⟩),.agg #[.int .i64 0,.int .i64 nn,.int .i64 pp,.string tx,.slice ia ni ic,.slice ka nk kc,.slice fa nf fc]] w (WrOut B bf w pv out pl [110,117,108,108]):=by
 have h1:=h.alloc (.cells #[.int .i64 0,.int .i64 nn,.int .i64 pp,.string tx,.slice ia ni ic,.slice ka nk kc,.slice fa nf fc] 67)
 have k1:OutK B bf w (w.alloc (.cells #[.int .i64 0,.int .i64 nn,.int .i64 pp,.string tx,.slice ia ni ic,.slice ka nk kc,.slice fa nf fc] 67)):=(OutK.refl B bf w).alloc _
 have he1:Env E (w.alloc (.cells #[.int .i64 0,.int .i64 nn,.int .i64 pp,.string tx,.slice ia ni ic,.slice ka nk kc,.slice fa nf fc] 67)):=he.outk hEB h k1
 have hE1:E≤(w.alloc (.cells #[.int .i64 0,.int .i64 nn,.int .i64 pp,.string tx,.slice ia ni ic,.slice ka nk kc,.slice fa nf fc] 67)).heap.size:=Nat.le_trans hEB h1.bw
 have hx0:(w.alloc (.cells #[.int .i64 0,.int .i64 nn,.int .i64 pp,.string tx,.slice ia ni ic,.slice ka nk kc,.slice fa nf fc] 67)).heap[w.heap.size]?=some (.cells #[.int .i64 0,.int .i64 nn,.int .i64 pp,.string tx,.slice ia ni ic,.slice ka nk kc,.slice fa nf fc] 67 (0,0)):=bln _ _
 have K1:=hide k1
 have HP:=hide (wput1 h1 { data:=#[110,117,108,108] } (by show _+4≤_;omega))
 rw[World.size_alloc]at HP
 clear he h h1 k1 he1 hx0
 go_enter Tryz.func132,Tryz.ntmps132
 go_wp2_with fail
 refine HP.o.mono ?_
 rintro e w9 ⟨rfl,ov9,h9,k9⟩
 have H9:=hide h9
 have K9:=hide (K1.o.trans k9)
 clear h9 k9
 go_wp2
 go_end0
 exact⟨rfl,ov9,H9.o,K9.o⟩
theorem wvf{E:Nat}{nn:Int}{pp:Int}{tx:ByteArray}{ia ka fa:Option Addr}{ni ic nk kc nf fc:Nat}(he:Env E w)(hEB:E≤B)(h:OutW B bf w ov pv out pl)(hnn:(nn==1)=false)(hlen:out.length+100≤500000000) :
  Calls Tryz.prog 132 #[.pointer (some ⟨bf,0,none⟩),.agg #[.int .i64 1,.int .i64 nn,.int .i64 pp,.string tx,.slice ia ni ic,.slice ka nk kc,.slice fa nf fc]] w (WrOut B bf w pv out pl [102,97,108,115,101]):=by
 have h1:=h.alloc (.cells #[.int .i64 1,.int .i64 nn,.int .i64 pp,.string tx,.slice ia ni ic,.slice ka nk kc,.slice fa nf fc] 67)
 have k1:OutK B bf w (w.alloc (.cells #[.int .i64 1,.int .i64 nn,.int .i64 pp,.string tx,.slice ia ni ic,.slice ka nk kc,.slice fa nf fc] 67)):=(OutK.refl B bf w).alloc _
 have he1:Env E (w.alloc (.cells #[.int .i64 1,.int .i64 nn,.int .i64 pp,.string tx,.slice ia ni ic,.slice ka nk kc,.slice fa nf fc] 67)):=he.outk hEB h k1
 have hE1:E≤(w.alloc (.cells #[.int .i64 1,.int .i64 nn,.int .i64 pp,.string tx,.slice ia ni ic,.slice ka nk kc,.slice fa nf fc] 67)).heap.size:=Nat.le_trans hEB h1.bw
 have hx0:(w.alloc (.cells #[.int .i64 1,.int .i64 nn,.int .i64 pp,.string tx,.slice ia ni ic,.slice ka nk kc,.slice fa nf fc] 67)).heap[w.heap.size]?=some (.cells #[.int .i64 1,.int .i64 nn,.int .i64 pp,.string tx,.slice ia ni ic,.slice ka nk kc,.slice fa nf fc] 67 (0,0)):=bln _ _
 have K1:=hide k1
 have HP:=hide (wput1 h1 { data:=#[102,97,108,115,101] } (by show _+5≤_;omega))
 rw[World.size_alloc]at HP
 clear he h h1 k1 he1 hx0
 go_enter Tryz.func132,Tryz.ntmps132
 go_wp2_with fail
 refine(fBo _ _).mono ?_
 rintro e w2 ⟨rfl,hw⟩
 have hw:=hw.symm
 subst hw
 go_wp2_with fail
 refine HP.o.mono ?_
 rintro e w9 ⟨rfl,ov9,h9,k9⟩
 have H9:=hide h9
 have K9:=hide (K1.o.trans k9)
 clear h9 k9
 go_wp2
 go_end0
 exact⟨rfl,ov9,H9.o,K9.o⟩
theorem wt{E:Nat}{pp:Int}{tx:ByteArray}{ia ka fa:Option Addr}{ni ic nk kc nf fc:Nat}(he:Env E w)(hEB:E≤B)(h:OutW B bf w ov pv out pl)(hlen:out.length+100≤500000000) :
  Calls Tryz.prog 132 #[.pointer (some ⟨bf,0,none⟩),.agg #[.int .i64 1,.int .i64 1,.int .i64 pp,.string tx,.slice ia ni ic,.slice ka nk kc,.slice fa nf fc]] w (WrOut B bf w pv out pl [116,114,117,101]):=by
 have h1:=h.alloc (.cells #[.int .i64 1,.int .i64 1,.int .i64 pp,.string tx,.slice ia ni ic,.slice ka nk kc,.slice fa nf fc] 67)
 have k1:OutK B bf w (w.alloc (.cells #[.int .i64 1,.int .i64 1,.int .i64 pp,.string tx,.slice ia ni ic,.slice ka nk kc,.slice fa nf fc] 67)):=(OutK.refl B bf w).alloc _
 have he1:Env E (w.alloc (.cells #[.int .i64 1,.int .i64 1,.int .i64 pp,.string tx,.slice ia ni ic,.slice ka nk kc,.slice fa nf fc] 67)):=he.outk hEB h k1
 have hE1:E≤(w.alloc (.cells #[.int .i64 1,.int .i64 1,.int .i64 pp,.string tx,.slice ia ni ic,.slice ka nk kc,.slice fa nf fc] 67)).heap.size:=Nat.le_trans hEB h1.bw
 have hx0:(w.alloc (.cells #[.int .i64 1,.int .i64 1,.int .i64 pp,.string tx,.slice ia ni ic,.slice ka nk kc,.slice fa nf fc] 67)).heap[w.heap.size]?=some (.cells #[.int .i64 1,.int .i64 1,.int .i64 pp,.string tx,.slice ia ni ic,.slice ka nk kc,.slice fa nf fc] 67 (0,0)):=bln _ _
 have K1:=hide k1
 have HP:=hide (wput1 h1 { data:=#[116,114,117,101] } (by show _+4≤_;omega))
 rw[World.size_alloc]at HP
 clear he h h1 k1 he1 hx0
 go_enter Tryz.func132,Tryz.ntmps132
 go_wp2_with fail
 refine(fBo _ _).mono ?_
 rintro e w2 ⟨rfl,hw⟩
 have hw:=hw.symm
 subst hw
 go_wp2_with fail
 refine HP.o.mono ?_
 rintro e w9 ⟨rfl,ov9,h9,k9⟩
 have H9:=hide h9
 have K9:=hide (K1.o.trans k9)
 clear h9 k9
 go_wp2
 go_end0
 exact⟨rfl,ov9,H9.o,K9.o⟩
theorem wvi{E:Nat}{nn:Int}{pp:Int}{tx:ByteArray}{ia ka fa:Option Addr}{ni ic nk kc nf fc:Nat}(he:Env E w)(hEB:E≤B)(h:OutW B bf w ov pv out pl)(hn1 : -9223372036854775808≤nn)(hn2:nn≤9223372036854775807)(hlen:out.length+100≤500000000) :
  Calls Tryz.prog 132 #[.pointer (some ⟨bf,0,none⟩),.agg #[.int .i64 2,.int .i64 nn,.int .i64 pp,.string tx,.slice ia ni ic,.slice ka nk kc,.slice fa nf fc]] w (WrOut B bf w pv out pl (Fo.wint nn)):=by
 have h1:=h.alloc (.cells #[.int .i64 2,.int .i64 nn,.int .i64 pp,.string tx,.slice ia ni ic,.slice ka nk kc,.slice fa nf fc] 67)
 have k1:OutK B bf w (w.alloc (.cells #[.int .i64 2,.int .i64 nn,.int .i64 pp,.string tx,.slice ia ni ic,.slice ka nk kc,.slice fa nf fc] 67)):=(OutK.refl B bf w).alloc _
 have he1:Env E (w.alloc (.cells #[.int .i64 2,.int .i64 nn,.int .i64 pp,.string tx,.slice ia ni ic,.slice ka nk kc,.slice fa nf fc] 67)):=he.outk hEB h k1
 have hE1:E≤(w.alloc (.cells #[.int .i64 2,.int .i64 nn,.int .i64 pp,.string tx,.slice ia ni ic,.slice ka nk kc,.slice fa nf fc] 67)).heap.size:=Nat.le_trans hEB h1.bw
 have hx0:(w.alloc (.cells #[.int .i64 2,.int .i64 nn,.int .i64 pp,.string tx,.slice ia ni ic,.slice ka nk kc,.slice fa nf fc] 67)).heap[w.heap.size]?=some (.cells #[.int .i64 2,.int .i64 nn,.int .i64 pp,.string tx,.slice ia ni ic,.slice ka nk kc,.slice fa nf fc] 67 (0,0)):=bln _ _
 have K1:=hide k1
 have HI:=hide (wio he1 hE1 nn hn1 hn2)
 have H1:=hide h1
 clear he h h1 k1 he1 hx0
 go_enter Tryz.func132,Tryz.ntmps132
 go_wp2_with fail
 refine HI.o.mono ?_
 rintro e w2 ⟨S,rfl,hS,b2⟩
 have H2:=hide (H1.o.below b2)
 have K2:=hide (K1.o.trans (OutK.of_below (b:=0) b2))
 have hsl:S.size≤20:=by rw[←bll,hS];exact Fo.wint_len hn1 hn2
 have HP:=hide (wput1 H2.o S (by omega))
 rw[hS]at HP
 clear b2 HI K1 hS
 go_wp2_with fail
 refine HP.o.mono ?_
 rintro e w9 ⟨rfl,ov9,h9,k9⟩
 have H9:=hide h9
 have K9:=hide (K2.o.trans k9)
 clear h9 k9
 go_wp2
 go_end0
 exact⟨rfl,ov9,H9.o,K9.o⟩
theorem wr_{E:Nat}{nn:Int}{pp:Int}{tx:ByteArray}{ia ka fa:Option Addr}{ni ic nk kc nf fc:Nat}(he:Env E w)(hEB:E≤B)(h:OutW B bf w ov pv out pl)(hn1 : -9223372036854775808≤nn)(hn2:nn≤9223372036854775807)(hlen:out.length+100≤500000000) :
  Calls Tryz.prog 132 #[.pointer (some ⟨bf,0,none⟩),.agg #[.int .i64 9,.int .i64 nn,.int .i64 pp,.string tx,.slice ia ni ic,.slice ka nk kc,.slice fa nf fc]] w (WrOut B bf w pv out pl (Fo.wint nn++[32,48,32,82])):=by
 have h1:=h.alloc (.cells #[.int .i64 9,.int .i64 nn,.int .i64 pp,.string tx,.slice ia ni ic,.slice ka nk kc,.slice fa nf fc] 67)
 have k1:OutK B bf w (w.alloc (.cells #[.int .i64 9,.int .i64 nn,.int .i64 pp,.string tx,.slice ia ni ic,.slice ka nk kc,.slice fa nf fc] 67)):=(OutK.refl B bf w).alloc _
 have he1:Env E (w.alloc (.cells #[.int .i64 9,.int .i64 nn,.int .i64 pp,.string tx,.slice ia ni ic,.slice ka nk kc,.slice fa nf fc] 67)):=he.outk hEB h k1
 have hE1:E≤(w.alloc (.cells #[.int .i64 9,.int .i64 nn,.int .i64 pp,.string tx,.slice ia ni ic,.slice ka nk kc,.slice fa nf fc] 67)).heap.size:=Nat.le_trans hEB h1.bw
 have hx0:(w.alloc (.cells #[.int .i64 9,.int .i64 nn,.int .i64 pp,.string tx,.slice ia ni ic,.slice ka nk kc,.slice fa nf fc] 67)).heap[w.heap.size]?=some (.cells #[.int .i64 9,.int .i64 nn,.int .i64 pp,.string tx,.slice ia ni ic,.slice ka nk kc,.slice fa nf fc] 67 (0,0)):=bln _ _
 have K1:=hide k1
 have HI:=hide (wio he1 hE1 nn hn1 hn2)
 have H1:=hide h1
 clear he h h1 k1 he1 hx0
 go_enter Tryz.func132,Tryz.ntmps132
 go_wp2_with fail
 refine HI.o.mono ?_
 rintro e w2 ⟨S,rfl,hS,b2⟩
 have H2:=hide (H1.o.below b2)
 have K2:=hide (K1.o.trans (OutK.of_below (b:=0) b2))
 have hsl:S.size≤20:=by rw[←bll,hS];exact Fo.wint_len hn1 hn2
 have HP:=hide (wput2 H2.o S { data:=#[32,48,32,82] } (by show _+(_+4)≤_;omega))
 rw[hS]at HP
 clear b2 HI K1 hS
 go_wp2_with fail
 refine HP.o.mono ?_
 rintro e w9 ⟨rfl,ov9,h9,k9⟩
 have H9:=hide h9
 have K9:=hide (K2.o.trans k9)
 clear h9 k9
 go_wp2
 go_end0
 exact⟨rfl,ov9,H9.o,K9.o⟩
theorem wvr{E:Nat}{nn:Int}{pp:Int}{tx:ByteArray}{ia ka fa:Option Addr}{ni ic nk kc nf fc:Nat}{p:Nat}(he:Env E w)(hEB:E≤B)(h:OutW B bf w ov pv out pl)(hpp:pp=(p:Int))(hp5:p≤5)(hn1 : -999999999≤nn)(hn2:nn≤999999999)(hlen:out.length+100≤500000000) :
  Calls Tryz.prog 132 #[.pointer (some ⟨bf,0,none⟩),.agg #[.int .i64 3,.int .i64 nn,.int .i64 pp,.string tx,.slice ia ni ic,.slice ka nk kc,.slice fa nf fc]] w (WrOut B bf w pv out pl (Fo.wreal nn p)):=by
 have h1:=h.alloc (.cells #[.int .i64 3,.int .i64 nn,.int .i64 pp,.string tx,.slice ia ni ic,.slice ka nk kc,.slice fa nf fc] 67)
 have k1:OutK B bf w (w.alloc (.cells #[.int .i64 3,.int .i64 nn,.int .i64 pp,.string tx,.slice ia ni ic,.slice ka nk kc,.slice fa nf fc] 67)):=(OutK.refl B bf w).alloc _
 have he1:Env E (w.alloc (.cells #[.int .i64 3,.int .i64 nn,.int .i64 pp,.string tx,.slice ia ni ic,.slice ka nk kc,.slice fa nf fc] 67)):=he.outk hEB h k1
 have hE1:E≤(w.alloc (.cells #[.int .i64 3,.int .i64 nn,.int .i64 pp,.string tx,.slice ia ni ic,.slice ka nk kc,.slice fa nf fc] 67)).heap.size:=Nat.le_trans hEB h1.bw
 have hx0:(w.alloc (.cells #[.int .i64 3,.int .i64 nn,.int .i64 pp,.string tx,.slice ia ni ic,.slice ka nk kc,.slice fa nf fc] 67)).heap[w.heap.size]?=some (.cells #[.int .i64 3,.int .i64 nn,.int .i64 pp,.string tx,.slice ia ni ic,.slice ka nk kc,.slice fa nf fc] 67 (0,0)):=bln _ _
 have K1:=hide k1
 have HP:=hide (wro he1 hE1 hEB h1 nn p hn1 hn2 hp5 (by omega))
 rw[←hpp]at HP
 clear hpp
 clear he h h1 k1 he1 hx0
 go_enter Tryz.func132,Tryz.ntmps132
 go_wp2_with fail
 refine HP.o.mono ?_
 rintro e w9 ⟨rfl,ov9,h9,k9⟩
 have H9:=hide h9
 have K9:=hide (K1.o.trans k9)
 clear h9 k9
 go_wp2
 go_end0
 exact⟨rfl,ov9,H9.o,K9.o⟩
theorem wn_{E:Nat}{nn:Int}{pp:Int}{tx:ByteArray}{ia ka fa:Option Addr}{ni ic nk kc nf fc:Nat}(he:Env E w)(hEB:E≤B)(h:OutW B bf w ov pv out pl)(hlen:out.length+100+4*tx.size≤500000000) :
  Calls Tryz.prog 132 #[.pointer (some ⟨bf,0,none⟩),.agg #[.int .i64 4,.int .i64 nn,.int .i64 pp,.string tx,.slice ia ni ic,.slice ka nk kc,.slice fa nf fc]] w (WrOut B bf w pv out pl (Fo.wname (bl tx))):=by
 have h1:=h.alloc (.cells #[.int .i64 4,.int .i64 nn,.int .i64 pp,.string tx,.slice ia ni ic,.slice ka nk kc,.slice fa nf fc] 67)
 have k1:OutK B bf w (w.alloc (.cells #[.int .i64 4,.int .i64 nn,.int .i64 pp,.string tx,.slice ia ni ic,.slice ka nk kc,.slice fa nf fc] 67)):=(OutK.refl B bf w).alloc _
 have he1:Env E (w.alloc (.cells #[.int .i64 4,.int .i64 nn,.int .i64 pp,.string tx,.slice ia ni ic,.slice ka nk kc,.slice fa nf fc] 67)):=he.outk hEB h k1
 have hE1:E≤(w.alloc (.cells #[.int .i64 4,.int .i64 nn,.int .i64 pp,.string tx,.slice ia ni ic,.slice ka nk kc,.slice fa nf fc] 67)).heap.size:=Nat.le_trans hEB h1.bw
 have hx0:(w.alloc (.cells #[.int .i64 4,.int .i64 nn,.int .i64 pp,.string tx,.slice ia ni ic,.slice ka nk kc,.slice fa nf fc] 67)).heap[w.heap.size]?=some (.cells #[.int .i64 4,.int .i64 nn,.int .i64 pp,.string tx,.slice ia ni ic,.slice ka nk kc,.slice fa nf fc] 67 (0,0)):=bln _ _
 have K1:=hide k1
 have HP:=hide (wno h1 tx (by omega))
 clear he h h1 k1 he1 hx0
 go_enter Tryz.func132,Tryz.ntmps132
 go_wp2_with fail
 refine HP.o.mono ?_
 rintro e w9 ⟨rfl,ov9,h9,k9⟩
 have H9:=hide h9
 have K9:=hide (K1.o.trans k9)
 clear h9 k9
 go_wp2
 go_end0
 exact⟨rfl,ov9,H9.o,K9.o⟩
theorem ws{E:Nat}{nn:Int}{pp:Int}{tx:ByteArray}{ia ka fa:Option Addr}{ni ic nk kc nf fc:Nat}(he:Env E w)(hEB:E≤B)(h:OutW B bf w ov pv out pl)(hlen:out.length+100+4*tx.size≤500000000) :
  Calls Tryz.prog 132 #[.pointer (some ⟨bf,0,none⟩),.agg #[.int .i64 5,.int .i64 nn,.int .i64 pp,.string tx,.slice ia ni ic,.slice ka nk kc,.slice fa nf fc]] w (WrOut B bf w pv out pl (Fo.wquoted (bl tx))):=by
 have h1:=h.alloc (.cells #[.int .i64 5,.int .i64 nn,.int .i64 pp,.string tx,.slice ia ni ic,.slice ka nk kc,.slice fa nf fc] 67)
 have k1:OutK B bf w (w.alloc (.cells #[.int .i64 5,.int .i64 nn,.int .i64 pp,.string tx,.slice ia ni ic,.slice ka nk kc,.slice fa nf fc] 67)):=(OutK.refl B bf w).alloc _
 have he1:Env E (w.alloc (.cells #[.int .i64 5,.int .i64 nn,.int .i64 pp,.string tx,.slice ia ni ic,.slice ka nk kc,.slice fa nf fc] 67)):=he.outk hEB h k1
 have hE1:E≤(w.alloc (.cells #[.int .i64 5,.int .i64 nn,.int .i64 pp,.string tx,.slice ia ni ic,.slice ka nk kc,.slice fa nf fc] 67)).heap.size:=Nat.le_trans hEB h1.bw
 have hx0:(w.alloc (.cells #[.int .i64 5,.int .i64 nn,.int .i64 pp,.string tx,.slice ia ni ic,.slice ka nk kc,.slice fa nf fc] 67)).heap[w.heap.size]?=some (.cells #[.int .i64 5,.int .i64 nn,.int .i64 pp,.string tx,.slice ia ni ic,.slice ka nk kc,.slice fa nf fc] 67 (0,0)):=bln _ _
 have K1:=hide k1
 have HP:=hide (wqo h1 tx (by omega))
 clear he h h1 k1 he1 hx0
 go_enter Tryz.func132,Tryz.ntmps132
 go_wp2_with fail
 refine HP.o.mono ?_
 rintro e w9 ⟨rfl,ov9,h9,k9⟩
 have H9:=hide h9
 have K9:=hide (K1.o.trans k9)
 clear h9 k9
 go_wp2
 go_end0
 exact⟨rfl,ov9,H9.o,K9.o⟩
theorem wa{E:Nat}{nn:Int}{pp:Int}{tx:ByteArray}{ia ka fa:Option Addr}{ni ic nk kc nf fc:Nat}{more:List Nat}(he:Env E w)(hEB:E≤B)(h:OutW B bf w ov pv out pl)(hc:∀(W:World) (o1:Value),OutW B bf W o1 pv out pl→OutK B bf w W→Calls Tryz.prog 184 #[.pointer (some ⟨bf,0,none⟩),.agg #[.int .i64 6,.int .i64 nn,.int .i64 pp,.string tx,.slice ia ni ic,.slice ka nk kc,.slice fa nf fc]] W (WrOut B bf W pv out pl more)) :
  Calls Tryz.prog 132 #[.pointer (some ⟨bf,0,none⟩),.agg #[.int .i64 6,.int .i64 nn,.int .i64 pp,.string tx,.slice ia ni ic,.slice ka nk kc,.slice fa nf fc]] w (WrOut B bf w pv out pl more):=by
 have h1:=h.alloc (.cells #[.int .i64 6,.int .i64 nn,.int .i64 pp,.string tx,.slice ia ni ic,.slice ka nk kc,.slice fa nf fc] 67)
 have k1:OutK B bf w (w.alloc (.cells #[.int .i64 6,.int .i64 nn,.int .i64 pp,.string tx,.slice ia ni ic,.slice ka nk kc,.slice fa nf fc] 67)):=(OutK.refl B bf w).alloc _
 have he1:Env E (w.alloc (.cells #[.int .i64 6,.int .i64 nn,.int .i64 pp,.string tx,.slice ia ni ic,.slice ka nk kc,.slice fa nf fc] 67)):=he.outk hEB h k1
 have hE1:E≤(w.alloc (.cells #[.int .i64 6,.int .i64 nn,.int .i64 pp,.string tx,.slice ia ni ic,.slice ka nk kc,.slice fa nf fc] 67)).heap.size:=Nat.le_trans hEB h1.bw
 have hx0:(w.alloc (.cells #[.int .i64 6,.int .i64 nn,.int .i64 pp,.string tx,.slice ia ni ic,.slice ka nk kc,.slice fa nf fc] 67)).heap[w.heap.size]?=some (.cells #[.int .i64 6,.int .i64 nn,.int .i64 pp,.string tx,.slice ia ni ic,.slice ka nk kc,.slice fa nf fc] 67 (0,0)):=bln _ _
 have K1:=hide k1
 have HP:=hide (hc _ ov h1 k1)
 clear he h h1 k1 he1 hx0 hc
 go_enter Tryz.func132,Tryz.ntmps132
 go_wp2_with fail
 refine HP.o.mono ?_
 rintro e w9 ⟨rfl,ov9,h9,k9⟩
 have H9:=hide h9
 have K9:=hide (K1.o.trans k9)
 clear h9 k9
 go_wp2
 go_end0
 exact⟨rfl,ov9,H9.o,K9.o⟩
theorem wvd{E:Nat}{nn:Int}{pp:Int}{tx:ByteArray}{ia ka fa:Option Addr}{ni ic nk kc nf fc:Nat}{more:List Nat}(he:Env E w)(hEB:E≤B)(h:OutW B bf w ov pv out pl)(hc:∀(W:World) (o1:Value),OutW B bf W o1 pv out pl→OutK B bf w W→Calls Tryz.prog 134 #[.pointer (some ⟨bf,0,none⟩),.agg #[.int .i64 7,.int .i64 nn,.int .i64 pp,.string tx,.slice ia ni ic,.slice ka nk kc,.slice fa nf fc]] W (WrOut B bf W pv out pl more)) :
  Calls Tryz.prog 132 #[.pointer (some ⟨bf,0,none⟩),.agg #[.int .i64 7,.int .i64 nn,.int .i64 pp,.string tx,.slice ia ni ic,.slice ka nk kc,.slice fa nf fc]] w (WrOut B bf w pv out pl more):=by
 have h1:=h.alloc (.cells #[.int .i64 7,.int .i64 nn,.int .i64 pp,.string tx,.slice ia ni ic,.slice ka nk kc,.slice fa nf fc] 67)
 have k1:OutK B bf w (w.alloc (.cells #[.int .i64 7,.int .i64 nn,.int .i64 pp,.string tx,.slice ia ni ic,.slice ka nk kc,.slice fa nf fc] 67)):=(OutK.refl B bf w).alloc _
 have he1:Env E (w.alloc (.cells #[.int .i64 7,.int .i64 nn,.int .i64 pp,.string tx,.slice ia ni ic,.slice ka nk kc,.slice fa nf fc] 67)):=he.outk hEB h k1
 have hE1:E≤(w.alloc (.cells #[.int .i64 7,.int .i64 nn,.int .i64 pp,.string tx,.slice ia ni ic,.slice ka nk kc,.slice fa nf fc] 67)).heap.size:=Nat.le_trans hEB h1.bw
 have hx0:(w.alloc (.cells #[.int .i64 7,.int .i64 nn,.int .i64 pp,.string tx,.slice ia ni ic,.slice ka nk kc,.slice fa nf fc] 67)).heap[w.heap.size]?=some (.cells #[.int .i64 7,.int .i64 nn,.int .i64 pp,.string tx,.slice ia ni ic,.slice ka nk kc,.slice fa nf fc] 67 (0,0)):=bln _ _
 have K1:=hide k1
 have HP:=hide (hc _ ov h1 k1)
 clear he h h1 k1 he1 hx0 hc
 go_enter Tryz.func132,Tryz.ntmps132
 go_wp2_with fail
 refine HP.o.mono ?_
 rintro e w9 ⟨rfl,ov9,h9,k9⟩
 have H9:=hide h9
 have K9:=hide (K1.o.trans k9)
 clear h9 k9
 go_wp2
 go_end0
 exact⟨rfl,ov9,H9.o,K9.o⟩
theorem wvo:∀ k:Nat,WO k
 |0=>fun B bf E w ov pv out pl P v V _ _ _ h _ _=>h.elim
 |k+1=>fun B bf E w ov pv out pl P v V he hEB h hv hok hlen=>by
  have hvs:=hv
  obtain⟨ia,ic,ka,kc,fa,fc,rfl,hai,hak,haf⟩:=VIn.split (V:=V) hvs
  have hl2:out.length+100+4*(Node.text V).length≤500000000:=by
   have:Fo.wlen (k:=k+1) V=100+4*(Node.text V).length+((Node.items V).map fun y=>10+Fo.wlen y).sum+((Node.keys V).map fun s=>10+3*s.length).sum:=rfl
   omega
  have hl1:out.length+100≤500000000:=by omega
  have hts:(strN (Node.text V)).size=(Node.text V).length:=stNs _
  have hbt:bl (strN (Node.text V))=Node.text V:=bsN _ hok.2.2.2.2.1
  obtain⟨o1,o2,o3,o4,o5,o6,o7⟩:=hok
  have hwv:Fo.wv (k:=k+1) V=match Node.kind V with
    |0=>[110,117,108,108]
    |1=>if Node.n V=1 then[116,114,117,101]else[102,97,108,115,101]
    |2=>Fo.wint (Node.n V)
    |3=>Fo.wreal (Node.n V) (Node.places V)
    |4=>Fo.wname (Node.text V)
    |5=>Fo.wquoted (Node.text V)
    |6=>91::(Fo.wjoin ((Node.items V).map fun y=>Fo.wv (k:=k) y)++[93])
    |7=>60::60::(Fo.wjoin (((Node.keys V).zip (Node.items V)).map fun z=>Fo.wname z.1++(32::Fo.wv (k:=k) z.2))++[62,62])
    |9=>Fo.wint (Node.n V)++[32,48,32,82]
    |_=>[]:=rfl
  rw[hwv]
  have hkd:Node.kind V=0∨Node.kind V=1∨Node.kind V=2∨Node.kind V=3∨Node.kind V=4∨Node.kind V=5∨Node.kind V=6∨Node.kind V=7∨Node.kind V=9:=by omega
  rcases hkd with hk | hk | hk | hk | hk | hk | hk | hk | hk
  ·rw[hk];exact wvn he hEB h hl1
  ·rw[hk]
   by_cases hn1:Node.n V=1
   ·rw[hn1];exact wt he hEB h hl1
   ·simp only[if_neg hn1];exact wvf he hEB h (by simpa using hn1) hl1
  ·rw[hk];exact wvi he hEB h o2.1 o2.2 hl1
  ·rw[hk];obtain⟨a,b,c⟩:=o3 hk;exact wvr he hEB h rfl c a b hl1
  ·rw[hk]
   have:=wn_ (nn:=Node.n V) (pp:=(Node.places V:Int)) (tx:=strN (Node.text V)) (ia:=ia) (ni:=(Node.items V).length) (ic:=ic) (ka:=ka) (nk:=(Node.keys V).length) (kc:=kc) (fa:=fa) (nf:=(Node.filters V).length) (fc:=fc) he hEB h (by omega)
   rw[hbt]at this
   exact this
  ·rw[hk]
   have:=ws (nn:=Node.n V) (pp:=(Node.places V:Int)) (tx:=strN (Node.text V)) (ia:=ia) (ni:=(Node.items V).length) (ic:=ic) (ka:=ka) (nk:=(Node.keys V).length) (kc:=kc) (fa:=fa) (nf:=(Node.filters V).length) (fc:=fc) he hEB h (by omega)
   rw[hbt]at this
   exact this
  ·rw[hk]
   refine wa he hEB h (fun W o1' hW kW=>?_)
   have hvW:=VIn.outk (k+1) hv h kW
   rw[hk]at hvW
   exact wo2 (V:=V) (wvo k) (he.outk hEB h kW) hEB hW hvW ⟨o1,o2,o3,o4,o5,o6,o7⟩ hlen
  ·rw[hk]
   refine wvd he hEB h (fun W o1' hW kW=>?_)
   have hvW:=VIn.outk (k+1) hv h kW
   rw[hk]at hvW
   exact wdo (V:=V) (wvo k) (he.outk hEB h kW) hEB hW hvW ⟨o1,o2,o3,o4,o5,o6,o7⟩ (o4 hk) hlen
  ·rw[hk];exact wr_ he hEB h o2.1 o2.2 hl1
end
end Go.Proofs.YtgkljcmjnphpeaaGreatDoor
