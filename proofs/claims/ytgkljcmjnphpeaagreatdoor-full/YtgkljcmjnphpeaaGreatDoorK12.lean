import Derived.Test.YtgkljcmjnphpeaaGreatDoorK11
set_option linter.unusedVariables false
set_option linter.unusedSimpArgs false
set_option maxHeartbeats 4000000
set_option maxRecDepth 100000
namespace Go.Proofs.YtgkljcmjnphpeaaGreatDoor
open Go.RowKit
section
variable{B bs cap:Nat}{ao:Option Addr}{data:List Nat}{x2 x3 x4:Value}{w w':World}{r q:List Nat}
namespace Fo
def trailerOf(n:Nat)(V:Node (VT 11)):Option Int:=
 if V.keys.length=2 then match itemOf { data:=#[83,105,122,101] } 2 V with
  |none=>none
  |some y=>if nOf y=((n+1:Nat):Int)then(itemOf { data:=#[82,111,111,116] } 9 V).map nOf else none
 else none
def trailer(n:Nat)(r:List Nat):Option (Int × List Nat):=match takesWord [116,114,97,105,108,101,114] r with
 |none=>none
 |some q=>match takes [60,60] (skip q)with
  |none=>none
  |some t=>match(dic (value 11) (t.length+1) t).map (fun x=>((⟨7,0,0,[],x.1.2,x.1.1,[]⟩:Node (VT 11)),x.2))with
   |none=>none
   |some (V,q)=>(trailerOf n V).map fun z=>(z,q)
def atEnd(table:Nat)(r:List Nat):Option (List Nat):=match takesWord [115,116,97,114,116,120,114,101,102] r with
 |none=>none
 |some q=>match takesWord (dec table) q with
  |none=>none
  |some q=>match lineEnd q with
   |none=>none
   |some q=>match takes [37,37,69,79,70] q with
    |none=>none
    |some q=>if(lineEnd q).getD q=[]then some []else none
theorem dic_lens{α:Type}{f:List Nat→Option (α × List Nat)}(hf:∀ r v q,f r=some (v,q)→q.length+1≤r.length):∀(m:Nat) (r q:List Nat) (l:List (List Nat) × List α),dic f m r=some (l,q)→l.1.length=l.2.length∧l.2.length+q.length≤r.length
 |0,r,q,l,h=>by cases h
 |m+1,r,q,l,h=>by
  simp only[dic]at h
  have hs:=skip_len r
  cases ht:takes [62,62] (skip r)with
  |some q1=>rw[ht]at h;simp at h;have:=(takes_len ht).1;rw[←h.1,←h.2];simp;omega
  |none =>
   rw[ht]at h
   simp only[]at h
   cases h47:takes [47] (skip r)with
   |none=>rw[h47]at h;cases h
   |some q1 =>
    rw[h47]at h
    simp only[]at h
    have l1:=(takes_len h47).1
    cases hn:name q1 with
    |none=>rw[hn]at h;cases h
    |some x =>
     obtain⟨k,q2⟩:=x
     rw[hn]at h
     simp only[]at h
     have l2:=nameS_len q1 0 0 k q2 hn
     cases hv:f q2 with
     |none=>rw[hv]at h;cases h
     |some y =>
      obtain⟨v,q3⟩:=y
      rw[hv]at h
      simp only[]at h
      cases hd:dic f m q3 with
      |none=>rw[hd]at h;cases h
      |some z =>
       obtain⟨z,q4⟩:=z
       rw[hd]at h
       simp at h
       have ih:=dic_lens hf m q3 q4 z hd
       have:=hf _ _ _ hv
       obtain⟨h1,h2⟩:=h
       subst h1;subst h2
       simp only[List.length_cons]
       omega
end Fo
theorem rfN(a0 a2 a3 a4 a5 a6:Value)(z:Int)(W:World):(Instr.field 67 (.agg #[a0,.int .i64 z,a2,a3,a4,a5,a6]) 1).run Tryz.prog W=.ok (.int .i64 z) W:=by kernel_rfl
def intV(_:World)(z:Int)(v:Value):Prop:=v=.int .i64 z
theorem tro(he:Env B w)(h:Sc B bs ao cap data x2 x3 x4 w r){oa:Option Addr}{n oc:Nat}(hx:x2=.slice oa n oc)(hn:n≤200000) :
  Calls Tryz.prog 141 #[.pointer (some ⟨bs,0,none⟩)] w (SRes B bs ao cap data x2 x3 x4 intV (Fo.trailer n r) w):=by
 have hBw:=h.env
 have HE:=hide he
 have HB:=hide h.hb
 have LT:=hide h.lt
 have H1:=hide (sWo h { data:=#[116,114,97,105,108,101,114] })
 rw[show bl { data:=#[116,114,97,105,108,101,114] }=[116,114,97,105,108,101,114]from rfl]at H1
 obtain⟨R,hR⟩:∃ R,Fo.trailer n r=R:=⟨_,rfl⟩
 rw[hR]
 have HR:=hide hR
 unfold Fo.trailer at HR
 have HX:=hide hx
 clear h he hR hx
 cases e1:Fo.takesWord [116,114,97,105,108,101,114] r with
 |none =>
  rw[e1]at H1 HR
  go_enter Tryz.func141,Tryz.ntmps141
  go_wp2_with fail
  refine H1.o.mono ?_
  rintro e w1 ⟨rfl,h1,k1⟩
  go_wp2_with fail
  refine(sn _).mono ?_
  rintro e w' ⟨rfl,rfl⟩
  exact⟨rfl,.none_ HR.o.symm k1⟩
 |some q =>
  rw[e1]at H1 HR
  simp only[]at HR
  go_enter Tryz.func141,Tryz.ntmps141
  go_wp2_with fail
  refine H1.o.mono ?_
  rintro e w1 ⟨rfl,h1,k1⟩
  have H2:=hide (smo (show Sc B bs ao cap data x2 x3 x4 w1 q from h1) { data:=#[60,60] } (by decide) (by decide))
  rw[show bl { data:=#[60,60] }=[60,60]from rfl]at H2
  have K1:=hide k1
  clear h1 k1 H1
  cases e2:Fo.takes [60,60] (Fo.skip q)with
  |none =>
   rw[e2]at H2 HR
   go_wp2_with fail
   refine H2.o.mono ?_
   rintro e w2 ⟨rfl,h2,k2⟩
   have K2:=hide (K1.o.trans k2)
   clear h2 k2
   go_wp2_with fail
   refine(sn _).mono ?_
   rintro e w' ⟨rfl,rfl⟩
   exact⟨rfl,.none_ HR.o.symm K2.o⟩
  |some t =>
   rw[e2]at H2 HR
   simp only[]at HR
   go_wp2_with fail
   refine H2.o.mono ?_
   rintro e w2 ⟨rfl,h2,k2⟩
   have HS2:=hide (show Sc B bs ao cap data x2 x3 x4 w2 t from h2)
   have K2:=hide (K1.o.trans k2)
   clear h2 k2 K1 H2
   go_wp2_with fail
   refine(smy _).mono ?_
   rintro e w' ⟨rfl,hw⟩
   have hw:=hw.symm
   subst hw
   have HV:=hide (sdo (k:=11) (by decide) (svo 11 (by decide)) (HE.o.only HB.o hBw K2.o).err HS2.o)
   rw[show((12-11:Nat):Int)=1 from rfl]at HV
   have htl:t.length≤200000:=by have:=HS2.o.le;have:=HS2.o.len;omega
   cases e3:Fo.dic (Fo.value 11) (t.length+1) t with
   |none =>
    rw[e3]at HV HR
    have HF:Hid (R=none):=HR.o.symm
    go_wp2_with fail
    refine HV.o.mono ?_
    rintro e w3 ⟨rfl,k3⟩
    exact⟨rfl,.none_ HF.o (K2.o.trans k3)⟩
   |some x =>
    obtain⟨⟨ks,vs⟩,q3⟩:=x
    have hlen:=Fo.dic_lens (fun r v q h=>Fo.value_len h) _ _ _ _ e3
    simp only[]at hlen
    rw[e3]at HV HR
    simp only[Option.map_some]at HV HR
    obtain⟨V,hVd⟩:∃ V:Node (VT 11),(⟨7,0,0,[],vs,ks,[]⟩:Node (VT 11))=V:=⟨_,rfl⟩
    have hks:V.keys=ks:=by rw[←hVd]
    have hvs:V.items=vs:=by rw[←hVd]
    rw[hVd]at HV HR
    have hkv:V.keys.length=V.items.length:=by rw[hks,hvs];exact hlen.1
    have hvl:V.items.length≤200000:=by rw[hvs];omega
    clear hVd e3 hlen hks hvs
    go_wp2_with fail
    refine HV.o.mono ?_
    rintro e w3 ⟨v,rfl,hv,h3,k3⟩
    obtain⟨iv,kv,fv,vs2,hvf,_,hiv,_,hkv2,hfv⟩:=VIn.parts hv
    obtain⟨ia,ic,rfl⟩:=ows hiv.1
    obtain⟨ka,kc,rfl⟩:=ows hkv2.1
    obtain⟨fa,fc,rfl⟩:=ows hfv.1
    have HV3:=hide hv
    have HS3:=hide h3
    have K3:=hide (K2.o.trans k3)
    clear hv h3 k3 HV hiv hkv2 hfv K2 HS2
    unfold nV at hvf
    generalize (V.kind:Int)=kd at hvf
    generalize V.n=nn at hvf
    generalize (V.places:Int)=pp at hvf
    generalize strN V.text=tt at hvf
    generalize vs2.length=il at hvf
    generalize V.filters.length=fl at hvf
    obtain⟨kl,hkl⟩:∃ kl,V.keys.length=kl:=⟨_,rfl⟩
    rw[hkl]at hvf hkv
    have HKL:=hide hkl
    have HKV:=hide hkv
    clear hkl hkv
    subst hvf
    have hB4:Below w3.heap.size w3 (w3.alloc (.cells #[.int .i64 kd,.int .i64 nn,.int .i64 pp,.string tt,.slice ia il ic,.slice ka kl kc,.slice fa fl fc] 67)):=(Below.refl _ _).alloc (Nat.le_refl _) _
    have HV4:=hide (VIn.keep 12 HV3.o (fun g _ hg=>hB4.block g hg))
    have HS4:=hide (HS3.o.other hB4)
    have K4:=hide (K3.o.trans (.of_below hB4))
    clear hB4 HV3 HS3 K3
    by_cases hk2:kl=2
    ·have HTO:Hid (R=(match Fo.itemOf { data:=#[83,105,122,101] } 2 V with | none=>none | some y=>if nOf y=((n+1:Nat):Int)then(Fo.itemOf { data:=#[82,111,111,116] } 9 V).map nOf else none).map fun z=>(z,q3)):=by
      unfold Hid
      rw[←HR.o]
      unfold Fo.trailerOf
      rw[if_pos (by rw[HKL.o];exact hk2)]
     clear HR
     subst hk2
     have HI1:=hide (iOo HV4.o (by rw[HKL.o];exact HKV.o) hvl { data:=#[83,105,122,101] } 2)
     have HI2:Hid (∀ W:World,Below (w3.alloc (.cells #[.int .i64 kd,.int .i64 nn,.int .i64 pp,.string tt,.slice ia il ic,.slice ka 2 kc,.slice fa fl fc] 67)).heap.size (w3.alloc (.cells #[.int .i64 kd,.int .i64 nn,.int .i64 pp,.string tt,.slice ia il ic,.slice ka 2 kc,.slice fa fl fc] 67)) W→Calls Tryz.prog 198 #[.agg #[.int .i64 kd,.int .i64 nn,.int .i64 pp,.string tt,.slice ia il ic,.slice ka 2 kc,.slice fa fl fc],.string { data:=#[82,111,111,116] },.int .i64 (9:Nat)] W (OneRes (fun g=>w2.heap.size≤g) 11 (Fo.itemOf { data:=#[82,111,111,116] } 9 V) W)):=
      fun W b=>iOo (VIn.keep 12 HV4.o (fun g _ hg=>b.block g hg)) (by rw[HKL.o];exact HKV.o) hvl { data:=#[82,111,111,116] } 9
     obtain⟨N,hN⟩:∃ N,n+1=N:=⟨_,rfl⟩
     rw[hN]at HTO
     have hb3:(w3.alloc (.cells #[.int .i64 kd,.int .i64 nn,.int .i64 pp,.string tt,.slice ia il ic,.slice ka 2 kc,.slice fa fl fc] 67)).heap[w3.heap.size]?=some (.cells #[.int .i64 kd,.int .i64 nn,.int .i64 pp,.string tt,.slice ia il ic,.slice ka 2 kc,.slice fa fl fc] 67 (0,0)):=bln _ _
     have HB3:=hide hb3
     clear hb3 HV4
     go_wp2_with fail
     refine(smy _).mono ?_
     rintro e w' ⟨rfl,hw⟩
     subst hw
     go_wp2_with fail
     refine HI1.o.mono ?_
     rintro e w5 ⟨b5,h5⟩
     cases e4:Fo.itemOf { data:=#[83,105,122,101] } 2 V with
     |none =>
      rw[e4]at h5 HTO
      simp only[]at h5
      subst h5
      exact⟨rfl,.none_ HTO.o (K4.o.trans (.of_below b5))⟩
     |some y =>
      rw[e4]at h5 HTO
      obtain⟨x,rfl,hx5⟩:=h5
      simp only[]at HTO
      obtain⟨py,ya,yl,yc,ya2,yl2,yc2,ya3,yl3,yc3,rfl⟩:=VIn.form2 hx5
      have HS5:=hide (HS4.o.other b5)
      have K5:=hide (K4.o.trans (.of_below b5))
      have HZ:=hide (fo HS5.o HX.o hn)
      rw[hN]at HZ
      have B5:=hide b5
      clear hx5 b5 HI1 e4
      generalize strN (tO y)=ty
      generalize hky:(kO y:Int)=ky
      generalize hny:nOf y=ny at *
      have hfl:=rfN (.int .i64 ky) (.int .i64 py) (.string ty) (.slice ya yl yc) (.slice ya2 yl2 yc2) (.slice ya3 yl3 yc3) ny
      go_wp2_with fail
      refine HZ.o.mono ?_
      rintro e w6 ⟨rfl,m6,hw6⟩
      have b6:Below w5.heap.size w5 w6:=by rw[hw6];exact bdN _ _
      have HS6:=hide (HS5.o.other b6)
      have K6:=hide (K5.o.trans (.of_below b6))
      have B6:=hide (B5.o.trans (b6.mono B5.o.size))
      clear b6 hw6 HZ HS5 K5 B5 m6
      by_cases hnn:ny=(N:Int)
      ·rw[if_pos hnn]at HTO
       have t1:(ny==(N:Int))=true:=by simp[hnn]
       have HI3:=hide (HI2.o w6 B6.o)
       have hb6:w6.heap[w3.heap.size]?=some (.cells #[.int .i64 kd,.int .i64 nn,.int .i64 pp,.string tt,.slice ia il ic,.slice ka 2 kc,.slice fa fl fc] 67 (0,0)):=by rw[B6.o.block _ (by simp)];exact HB3.o
       have d0:w6.cell? ⟨w3.heap.size,0,none⟩=some (.int .i64 kd):=ceb hb6
       have d1:w6.cell? ⟨w3.heap.size,1,none⟩=some (.int .i64 nn):=ceb hb6
       have d2:w6.cell? ⟨w3.heap.size,2,none⟩=some (.int .i64 pp):=ceb hb6
       have d3:w6.cell? ⟨w3.heap.size,3,none⟩=some (.string tt):=ceb hb6
       have d4:w6.cell? ⟨w3.heap.size,4,none⟩=some (.slice ia il ic):=ceb hb6
       have d5:w6.cell? ⟨w3.heap.size,5,none⟩=some (.slice ka 2 kc):=ceb hb6
       have d6:w6.cell? ⟨w3.heap.size,6,none⟩=some (.slice fa fl fc):=ceb hb6
       clear hb6 hnn HI2 HB3
       go_wp2_with fail
       refine(smy _).mono ?_
       rintro e w' ⟨rfl,hw⟩
       subst hw
       go_wp2_with fail
       refine HI3.o.mono ?_
       rintro e w7 ⟨b7,h7⟩
       cases e5:Fo.itemOf { data:=#[82,111,111,116] } 9 V with
       |none =>
        rw[e5]at h7 HTO
        simp only[]at h7
        subst h7
        exact⟨rfl,.none_ HTO.o (K6.o.trans (.of_below b7))⟩
       |some z =>
        rw[e5]at h7 HTO
        obtain⟨x,rfl,hx7⟩:=h7
        obtain⟨pz,za,zl,zc,za2,zl2,zc2,za3,zl3,zc3,rfl⟩:=VIn.form2 hx7
        have HS7:=hide (HS6.o.other b7)
        have K7:=hide (K6.o.trans (.of_below b7))
        have HF:Hid (R=some (nOf z,q3)):=HTO.o
        clear hx7 b7 HI3 e5 HTO
        generalize strN (tO z)=tz
        generalize (kO z:Int)=kz
        generalize nOf z=nz at *
        have hfl2:=rfN (.int .i64 kz) (.int .i64 pz) (.string tz) (.slice za zl zc) (.slice za2 zl2 zc2) (.slice za3 zl3 zc3) nz
        go_wp2
        go_ret
        exact .some_ HF.o rfl HS7.o K7.o
      ·rw[if_neg hnn]at HTO
       have t1:(ny==(N:Int))=false:=by simp[hnn]
       clear hnn
       go_wp2_with fail
       refine(sn _).mono ?_
       rintro e w' ⟨rfl,rfl⟩
       exact⟨rfl,.none_ HTO.o K6.o⟩
    ·have HF:Hid (R=none):=by
      unfold Hid
      rw[←HR.o]
      unfold Fo.trailerOf
      rw[if_neg (by rw[HKL.o];exact hk2)]
      rfl
     have t1:((kl:Int)==2)=false:=by simp;omega
     clear HR
     go_wp2_with fail
     refine(sn _).mono ?_
     rintro e w' ⟨rfl,rfl⟩
     exact⟨rfl,.none_ HF.o K4.o⟩
theorem feo(he:Env B w)(h:Sc B bs ao cap data x2 x3 x4 w r)(tb:Nat)(htb:tb≤200000) :
  Calls Tryz.prog 142 #[.pointer (some ⟨bs,0,none⟩),.int .i64 (tb:Int)] w (SkRes B bs ao cap data x2 x3 x4 (Fo.atEnd tb r) w):=by
 have hBw:=h.env
 have HE:=hide he
 have HS:=hide h
 have H1:=hide (sWo h.drew { data:=#[115,116,97,114,116,120,114,101,102] })
 rw[show bl { data:=#[115,116,97,114,116,120,114,101,102] }=[115,116,97,114,116,120,114,101,102]from rfl]at H1
 obtain⟨R,hR⟩:∃ R,Fo.atEnd tb r=R:=⟨_,rfl⟩
 rw[hR]
 have HR:=hide hR
 unfold Fo.atEnd at HR
 clear h he hR
 cases e1:Fo.takesWord [115,116,97,114,116,120,114,101,102] r with
 |none =>
  rw[e1]at H1 HR
  go_enter Tryz.func142,Tryz.ntmps142
  go_wp2_with fail
  refine wrT (fun _ _=>True) (by kernel_rfl) ?_
  intro hD
  have hS:=hide (show True from trivial)
  refine ti 0 ?_ hD hS ?_
  clear hD hS;intro hD hS;(try simp only[putL])
  refine ti 1 ?_ hD hS ?_
  clear hD hS;intro hD hS;(try simp only[putL])
  refine ti 2 ?_ hD hS ?_
  clear hD hS;intro hD hS;(try simp only[putL])
  refine on 3 hD fun K' hK=>?_
  go_simp
  refine H1.o.mono ?_
  rintro e w1 ⟨rfl,h1,k1⟩
  have K1:=hide ((Only.drew w).trans k1)
  clear h1 k1 H1
  refine hK.o _ _ trivial (fun hD2 hS2=>?_)
  clear hD hS hK K'
  have hD:=hD2
  have hS:=hS2
  clear hD2 hS2
  (try simp only[putL])
  refine on 4 hD fun K' hK=>?_
  go_simp
  refine hK.o _ _ trivial (fun hD2 hS2=>?_)
  clear hD hS hK K'
  have hD:=hD2
  have hS:=hS2
  clear hD2 hS2
  (try simp only[putL])
  refine tu 5 hD hS ?_
  clear hD hS;intro hD hS;(try simp only[putL])
  refine tu 6 hD hS ?_
  clear hD hS;intro hD hS;(try simp only[putL])
  refine tu 7 hD hS ?_
  clear hD hS;intro hD hS;(try simp only[putL])
  refine tu 8 hD hS ?_
  clear hD hS;intro hD hS;(try simp only[putL])
  refine tu 9 hD hS ?_
  clear hD hS;intro hD hS;(try simp only[putL])
  refine tu 10 hD hS ?_
  clear hD hS;intro hD hS;(try simp only[putL])
  refine on 11 hD fun K' hK=>?_
  go_simp
  refine hK.o _ _ trivial (fun hD2 hS2=>?_)
  clear hD hS hK K'
  have hD:=hD2
  have hS:=hS2
  clear hD2 hS2
  (try simp only[putL])
  refine on 12 hD fun K' hK=>?_
  go_simp
  refine(sn _).mono ?_
  rintro e w' ⟨rfl,rfl⟩
  exact⟨rfl,.none_ HR.o.symm K1.o⟩
 |some q =>
  rw[e1]at H1 HR
  simp only[]at HR
  go_enter Tryz.func142,Tryz.ntmps142
  go_wp2_with fail
  refine wrT (fun _ _=>True) (by kernel_rfl) ?_
  intro hD
  have hS:=hide (show True from trivial)
  refine ti 0 ?_ hD hS ?_
  clear hD hS;intro hD hS;(try simp only[putL])
  refine ti 1 ?_ hD hS ?_
  clear hD hS;intro hD hS;(try simp only[putL])
  refine ti 2 ?_ hD hS ?_
  clear hD hS;intro hD hS;(try simp only[putL])
  refine on 3 hD fun K' hK=>?_
  go_simp
  refine H1.o.mono ?_
  rintro e w1 ⟨rfl,h1,k1⟩
  have HS1:=hide (show Sc B bs ao cap data x2 x3 x4 w1 q from h1)
  have K1:=hide ((Only.drew w).trans k1)
  clear h1 k1 H1
  refine hK.o _ _ trivial (fun hD2 hS2=>?_)
  clear hD hS hK K'
  have hD:=hD2
  have hS:=hS2
  clear hD2 hS2
  (try simp only[putL])
  refine on 4 hD fun K' hK=>?_
  go_simp
  refine hK.o _ _ trivial (fun hD2 hS2=>?_)
  clear hD hS hK K'
  have hD:=hD2
  have hS:=hS2
  clear hD2 hS2
  (try simp only[putL])
  refine ti 5 ?_ hD hS ?_
  clear hD hS;intro hD hS;(try simp only[putL])
  refine ti 6 ?_ hD hS ?_
  clear hD hS;intro hD hS;(try simp only[putL])
  refine ti 7 ?_ hD hS ?_
  clear hD hS;intro hD hS;(try simp only[putL])
  refine ti 8 ?_ hD hS ?_
  clear hD hS;intro hD hS;(try simp only[putL])
  refine on 9 hD fun K' hK=>?_
  go_simp
  refine(io (HE.o.only HS.o.hb hBw K1.o) HS1.o.env tb (by omega)).mono ?_
  rintro e w2 ⟨rfl,b2⟩
  have HS2:=hide (HS1.o.other b2)
  have K2:=hide (K1.o.trans (.of_below b2))
  have HT:=hide (sWo HS2.o (strN (Fo.dec tb)))
  rw[bsN _ (deb tb)]at HT
  generalize strN (Fo.dec tb)=D at *
  clear b2 K1 HS1
  refine hK.o _ _ trivial (fun hD2 hS2=>?_)
  clear hD hS hK K'
  have hD:=hD2
  have hS:=hS2
  clear hD2 hS2
  (try simp only[putL])
  cases e2:Fo.takesWord (Fo.dec tb) q with
  |none =>
   rw[e2]at HT HR
   refine on 10 hD fun K' hK=>?_
   go_simp
   refine HT.o.mono ?_
   rintro e w3 ⟨rfl,h3,k3⟩
   have K3:=hide (K2.o.trans k3)
   clear h3 k3 HT
   refine hK.o _ _ trivial (fun hD2 hS2=>?_)
   clear hD hS hK K'
   have hD:=hD2
   have hS:=hS2
   clear hD2 hS2
   (try simp only[putL])
   refine on 11 hD fun K' hK=>?_
   go_simp
   refine hK.o _ _ trivial (fun hD2 hS2=>?_)
   clear hD hS hK K'
   have hD:=hD2
   have hS:=hS2
   clear hD2 hS2
   (try simp only[putL])
   refine on 12 hD fun K' hK=>?_
   go_simp
   refine(sn _).mono ?_
   rintro e w' ⟨rfl,rfl⟩
   exact⟨rfl,.none_ HR.o.symm K3.o⟩
  |some q2 =>
   rw[e2]at HT HR
   simp only[]at HR
   refine on 10 hD fun K' hK=>?_
   go_simp
   refine HT.o.mono ?_
   rintro e w3 ⟨rfl,h3,k3⟩
   have HS3:=hide (show Sc B bs ao cap data x2 x3 x4 w3 q2 from h3)
   have K3:=hide (K2.o.trans k3)
   clear h3 k3 HT K2 HS2
   refine hK.o _ _ trivial (fun hD2 hS2=>?_)
   clear hD hS hK K'
   have hD:=hD2
   have hS:=hS2
   clear hD2 hS2
   (try simp only[putL])
   refine on 11 hD fun K' hK=>?_
   go_simp
   refine hK.o _ _ trivial (fun hD2 hS2=>?_)
   clear hD hS hK K'
   have hD:=hD2
   have hS:=hS2
   clear hD2 hS2
   (try simp only[putL])
   refine on 12 hD fun K' hK=>?_
   go_simp
   refine(smy _).mono ?_
   rintro e w' ⟨rfl,hw⟩
   have hw:=hw.symm
   subst hw
   refine hK.o _ _ trivial (fun hD2 hS2=>?_)
   clear hD hS hK K'
   have hD:=hD2
   have hS:=hS2
   clear hD2 hS2
   (try simp only[putL])
   refine wATd (by kernel_rfl) ?_ _
   clear hD hS
   have HL:=hide (sEo HS3.o)
   cases e3:Fo.lineEnd q2 with
   |none =>
    rw[e3]at HL HR
    go_wp2_with fail
    refine HL.o.mono ?_
    rintro e w4 ⟨rfl,h4,k4⟩
    have K4:=hide (K3.o.trans k4)
    clear h4 k4
    go_wp2_with fail
    refine(sn _).mono ?_
    rintro e w' ⟨rfl,rfl⟩
    exact⟨rfl,.none_ HR.o.symm K4.o⟩
   |some q3 =>
    rw[e3]at HL HR
    simp only[]at HR
    go_wp2_with fail
    refine HL.o.mono ?_
    rintro e w4 ⟨rfl,h4,k4⟩
    have K4:=hide (K3.o.trans k4)
    have HT4:=hide (sto (show Sc B bs ao cap data x2 x3 x4 w4 q3 from h4) { data:=#[37,37,69,79,70] } (by decide) (by decide))
    rw[show bl { data:=#[37,37,69,79,70] }=[37,37,69,79,70]from rfl]at HT4
    clear h4 k4 K3 HL HS3
    cases e4:Fo.takes [37,37,69,79,70] q3 with
    |none =>
     rw[e4]at HT4 HR
     go_wp2_with fail
     refine HT4.o.mono ?_
     rintro e w5 ⟨rfl,h5,k5⟩
     have K5:=hide (K4.o.trans k5)
     clear h5 k5
     go_wp2_with fail
     refine(sn _).mono ?_
     rintro e w' ⟨rfl,rfl⟩
     exact⟨rfl,.none_ HR.o.symm K5.o⟩
    |some q4 =>
     rw[e4]at HT4 HR
     simp only[]at HR
     go_wp2_with fail
     refine HT4.o.mono ?_
     rintro e w5 ⟨rfl,h5,k5⟩
     have HS5:=hide (show Sc B bs ao cap data x2 x3 x4 w5 q4 from h5)
     have K5:=hide (K4.o.trans k5)
     clear h5 k5 HT4 K4
     go_wp2_with fail
     refine(smy _).mono ?_
     rintro e w' ⟨rfl,hw⟩
     have hw:=hw.symm
     subst hw
     have HL5:=hide (sEo HS5.o)
     go_wp2_with fail
     refine HL5.o.mono ?_
     rintro e w6 ⟨rfl,h6,k6⟩
     have HS6:=hide h6
     have K6:=hide (K5.o.trans k6)
     have HF:=hide (slo h6)
     clear h6 k6 HL5 K5 HS5
     generalize (Fo.lineEnd q4).getD q4=q5 at *
     generalize (Fo.lineEnd q4).isSome=bb
     go_wp2_with fail
     refine HF.o.mono ?_
     rintro e w7 ⟨rfl,m7,hw7⟩
     have HS7:Hid (Sc B bs ao cap data x2 x3 x4 w7 q5):=by unfold Hid;rw[hw7];exact HS6.o.drewN m7
     have K7:Hid (Only bs w w7):=by unfold Hid;rw[hw7];exact K6.o.drewN m7
     clear hw7 HF K6 HS6 m7
     by_cases h0:q5=[]
     ·subst h0
      rw[if_pos rfl]at HR
      go_wp2_with fail
      refine(smy _).mono ?_
      rintro e w' ⟨rfl,hw⟩
      have hw:=hw.symm
      subst hw
      go_wp2
      go_end0
      exact .some_ HR.o.symm HS7.o K7.o
     ·rw[if_neg h0]at HR
      have hl0:0<q5.length:=List.length_pos_iff.2 h0
      obtain⟨l,hl⟩:∃ l,q5.length=l:=⟨_,rfl⟩
      rw[hl]at hl0
      rw[hl]
      have t1:((l:Int)==0)=false:=by simp;omega
      clear h0 hl
      go_wp2_with fail
      refine(sn _).mono ?_
      rintro e w' ⟨rfl,rfl⟩
      exact⟨rfl,.none_ HR.o.symm K7.o⟩
end
section
variable{w w':World}
namespace Fo
def nameB:Nat→ByteArray
 |1=>{ data:=#[65,83,67,73,73,72,101,120,68,101,99,111,100,101] }
 |2=>{ data:=#[65,83,67,73,73,56,53,68,101,99,111,100,101] }
 |3=>{ data:=#[82,117,110,76,101,110,103,116,104,68,101,99,111,100,101] }
 |4=>{ data:=#[70,108,97,116,101,68,101,99,111,100,101] }
 |_=>{ data:=#[] }
def namedFrom(s:ByteArray):Nat→Nat→Nat
 |0,_=>0
 |m+1,k=>if nameB k=s then k else namedFrom s m (k+1)
def named(s:ByteArray):Nat:=namedFrom s 4 1
theorem nFl(s:ByteArray):∀ m k,namedFrom s m k<k+m∨namedFrom s m k=0
 |0,k=>Or.inr rfl
 |m+1,k=>by
  simp only[namedFrom]
  split
  ·left;omega
  ·rcases nFl s m (k+1)with h | h
   ·left;omega
   ·right;exact h
theorem named_le(s:ByteArray):named s≤4:=by
 have:=nFl s 4 1
 unfold named;omega
end Fo
theorem fno(k:Nat)(h1:1≤k)(h4:k≤4)(w:World):Calls Tryz.prog 290 #[.int .i64 (k:Int)] w fun e w'=>e=.returned (.string (Fo.nameB k))∧w'=w:=by
 match k,h1,h4 with
 |1,_,_ =>
  go_enter Tryz.func290,Tryz.ntmps290
  go_wp2
  go_ret
  exact⟨rfl,rfl⟩
 |2,_,_ =>
  go_enter Tryz.func290,Tryz.ntmps290
  go_wp2
  go_ret
  exact⟨rfl,rfl⟩
 |3,_,_ =>
  go_enter Tryz.func290,Tryz.ntmps290
  go_wp2
  go_ret
  exact⟨rfl,rfl⟩
 |4,_,_ =>
  go_enter Tryz.func290,Tryz.ntmps290
  go_wp2
  go_ret
  exact⟨rfl,rfl⟩
theorem nao(s:ByteArray)(w:World):Calls Tryz.prog 332 #[.string s] w fun e w'=>e=.returned (.int .i64 (Fo.named s:Nat))∧w'=w:=by
 obtain⟨R,hR⟩:∃ R,Fo.named s=R:=⟨_,rfl⟩
 rw[hR]
 have HR:=hide hR
 unfold Fo.named at HR
 clear hR
 go_enter Tryz.func332,Tryz.ntmps332
 go_wp2
 go_loopw [3] (fun i wr=>∃(m k:Nat),1≤k∧k+m=5∧i=.int .i64 k∧wr=w∧Hid (Fo.namedFrom s m k=R)) (fun i _=>5-(intOf i).toNat)
 case atStart=>exact⟨4,1,Nat.le_refl _,rfl,rfl,rfl,HR⟩
 clear HR
 case round =>
  obtain⟨m,k,hk,hm,rfl,rfl,HR⟩:=hrel
  cases m with
  |zero =>
   obtain rfl:k=5:=by omega
   go_wp2
   go_ret
   exact⟨by rw[←HR.o];rfl,rfl⟩
  |succ m =>
   have h4:k≤4:=by omega
   have HN:=hide (fno k hk h4 wr)
   by_cases he:Fo.nameB k=s
   ·have hc:(((Fo.nameB k).toList==s.toList))=true:=by rw[strEq,decide_eq_true_eq];exact he
    have HF:Hid (k=R):=by unfold Hid;rw[←HR.o,Fo.namedFrom,if_pos he]
    clear he HR
    generalize Fo.nameB k=S at *
    go_wp2_with fail
    refine HN.o.mono ?_
    rintro e w1 ⟨rfl,hw⟩
    have hw:=hw.symm
    subst hw
    go_wp2
    go_ret
    exact⟨by rw[←HF.o];rfl,rfl⟩
   ·have hc:(((Fo.nameB k).toList==s.toList))=false:=by rw[strEq,decide_eq_false_iff_not];exact he
    have HF:Hid (Fo.namedFrom s m (k+1)=R):=by unfold Hid;rw[←HR.o,Fo.namedFrom,if_neg he]
    clear he HR
    generalize Fo.nameB k=S at *
    go_wp2_with fail
    refine HN.o.mono ?_
    rintro e w1 ⟨rfl,hw⟩
    have hw:=hw.symm
    subst hw
    go_wp2
    go_roundw
    case rel=>exact⟨m,k+1,by omega,by omega,by first | rfl | (congr 1),by first | rfl | trivial,HF⟩
    case measure=>simp[intOf];omega
def kt{k:Nat}(y:VT k):Nat × List Nat:=(kO y,tO y)
def iK:{k:Nat}→VT k→List (Nat × List Nat)
 |0,_=>[]
 |_+1,V=>(Node.items V).map kt
def Few:{k:Nat}→VT k→Prop
 |0,_=>True
 |_+1,V=>(Node.items V).length≤200000∧(Node.keys V).length≤200000∧∀ y∈Node.items V,Few y
namespace Fo
def filterNames{k:Nat}(V:Node (VT k)):Option (List (Nat × List Nat)):=
 match pick { data:=#[70,105,108,116,101,114] } V.keys V.items with
 | []=>some []
 | [y]=>if kO y=4 then some [kt y]else if kO y=6 then some (iK y)else none
 |_=>none
def filts:List (Nat × List Nat)→Option (List Nat)
 | []=>some []
 |x::l=>if x.1=4∧1≤named (strN x.2)then(filts l).map fun r=>named (strN x.2)::r else none
def filtersOf{k:Nat}(V:Node (VT k)):Option (List Nat):=match filterNames V with
 |none=>none
 |some l=>filts l
theorem pick_mem{β:Type}{s:ByteArray}{ks:List (List Nat)}{l:List β}{x:β}(h:x∈pick s ks l):x∈l:=by
 unfold pick pickZ at h
 obtain⟨⟨a,b⟩,h1,rfl⟩:=List.mem_map.1 h
 exact(List.of_mem_zip (List.mem_filter.1 h1).1).2
end Fo
def KtRow(l:List (Nat × List Nat))(w:World)(v:Value):Prop:=
 ∃(P:Nat→Prop) (k:Nat) (Ys:List (VT k)),Vals P k 0 Ys w v∧Ys.map kt=l
def KtRes(o:Option (List (Nat × List Nat)))(w:World)(e:Ending)(w':World):Prop:=
 Below w.heap.size w w'∧match o with
  |some l=>∃ v,e=.returned v∧KtRow l w' v
  |none=>e=gU 4
theorem KtRes.none_{o:Option (List (Nat × List Nat))}(b:Below w.heap.size w w')(h:o=none):KtRes o w (gU 4) w':=by subst h;exact⟨b,rfl⟩
theorem KtRes.some_{o:Option (List (Nat × List Nat))}{l:List (Nat × List Nat)}{v:Value}(b:Below w.heap.size w w')(h:o=some l)(hx:KtRow l w' v):KtRes o w (.returned v) w':=by subst h;exact⟨b,v,rfl,hx⟩
theorem VIn.items{P:Nat→Prop}{k:Nat}{v:Value}{V:VT k}(h:VIn P k w v V):∃(pp:Nat) (iv kv fv:Value),v=.agg #[.int .i64 (kO V:Int),.int .i64 (nOf V),.int .i64 (pp:Int),.string (strN (tO V)),iv,kv,fv]∧KtRow (iK V) w iv∧(∃ a n c,iv=.slice a n c)∧(∃ a n c,kv=.slice a n c)∧∃ a n c,fv=.slice a n c:=by
 cases k with
 |zero=>cases h
 |succ k =>
  obtain⟨iv,kv,fv,vs,hv,hl,hi,hc,hk,hf⟩:=VIn.parts h
  obtain⟨a1,c1,e1⟩:=ows hi.1
  obtain⟨a2,c2,e2⟩:=ows hk.1
  obtain⟨a3,c3,e3⟩:=ows hf.1
  refine⟨_,iv,kv,fv,hv,⟨P,k,Node.items V,⟨vs,hi.1,hl,hc⟩,rfl⟩,⟨_,_,_,e1⟩,⟨_,_,_,e2⟩,⟨_,_,_,e3⟩⟩
theorem fNo{P:Nat→Prop}{k:Nat}{v:Value}{V:Node (VT k)}(h:VIn P (k+1) w v V)(hl:V.keys.length=V.items.length)(hfew:V.items.length≤200000) :
  Calls Tryz.prog 331 #[v] w (KtRes (Fo.filterNames V) w):=by
 obtain⟨k0,k1,k2,k3,ja,jl,jc,ka2,kl,kc2,fa2,fl,fc2,hxf⟩:=VIn.form h
 have HC:Hid (∀ W:World,Below w.heap.size w W→Calls Tryz.prog 260 #[v,.string { data:=#[70,105,108,116,101,114] }] W fun e w'=>∃ iv,e=.returned iv∧Vals P k (W.heap.size+1) (Fo.pick { data:=#[70,105,108,116,101,114] } V.keys V.items) w' iv∧Below W.heap.size W w'):=
  fun W b=>(itOo (VIn.keep (k+1) h (fun g _ hg=>b.block g hg)) hl hfew _).mono (fun e w' ⟨iv,h1,h2,h3⟩=>⟨iv,h1,h2.mono (fun g h _=>h.1),h3⟩)
 subst hxf
 clear h
 have B2:Hid (Below w.heap.size w (w.alloc (.cells #[.int .i64 k0,.int .i64 k1,.int .i64 k2,.string k3,.slice ja jl jc,.slice ka2 kl kc2,.slice fa2 fl fc2] 67))):=
  (Below.refl _ _).alloc (Nat.le_refl _) _
 have HC2:=hide (HC.o _ B2.o)
 obtain⟨o,ho⟩:∃ o,Fo.filterNames V=o:=⟨_,rfl⟩
 have HO:=hide ho
 unfold Fo.filterNames at HO
 rw[ho]
 obtain⟨Ys,hYs⟩:∃ Ys,Fo.pick { data:=#[70,105,108,116,101,114] } V.keys V.items=Ys:=⟨_,rfl⟩
 rw[hYs]at HO HC2
 clear ho hYs hl hfew HC
 go_enter Tryz.func331,Tryz.ntmps331
 go_wp2_with fail
 refine HC2.o.mono ?_
 rintro e w2 ⟨iv,rfl,hv,b2⟩
 have BB:=hide (B2.o.trans (b2.mono (by simp)))
 have HV:=hide hv
 clear HC2 b2 hv B2
 obtain⟨ia,ic,rfl⟩:=HV.o.len
 match Ys,HO,HV with
 | [],HO,HV =>
  have HF:Hid (KtRow [] w2 (.slice ia 0 ic)):=⟨P,k,[],HV.o.base,rfl⟩
  go_wp2_with fail
  refine(smy _).mono ?_
  rintro e w' ⟨rfl,hw⟩
  have hw:=hw.symm
  subst hw
  go_wp2
  go_ret
  exact .some_ BB.o HO.o.symm HF.o
 |y1::y2::Ys,HO,HV =>
  obtain⟨nn,hnn⟩:∃ nn,(y1::y2::Ys).length=nn:=⟨_,rfl⟩
  have hn2:2≤nn:=by rw[←hnn];simp
  have t1:decide ((nn:Int)≤1)=false:=by simp;omega
  rw[hnn]
  clear hnn
  go_wp2_with fail
  refine(sn _).mono ?_
  rintro e w' ⟨rfl,rfl⟩
  exact⟨rfl,.none_ BB.o (by rw[←HO.o])⟩
 | [y],HO,HV =>
  obtain⟨g,c,x,hge,hgb,hc1,hx,hxc⟩:=HV.o.at (i:=0) (y:=y) rfl
  cases hge
  simp only[]at HO
  obtain⟨pp2,iv2,kv2,fv2,hxf2,hkt,⟨qa,ql,qc,rfl⟩,⟨_,_,_,rfl⟩,_,_,_,rfl⟩:=VIn.items hx
  have HK:=hide hkt
  have d0:w2.cell? ⟨g,0,none⟩=some (.int .i64 (kO y:Int)):=by have:=hxc 0 _ (by rw[hxf2];rfl);rwa [Nat.zero_mul,Nat.zero_add]at this
  have d4:w2.cell? ⟨g,4,none⟩=some (.slice qa ql qc):=by have:=hxc 4 _ (by rw[hxf2];rfl);rwa [Nat.zero_mul,Nat.zero_add]at this
  have HF:Hid (KtRow [kt y] w2 (.slice (some ⟨g,0,none⟩) 1 ic)):=⟨P,k,[y],HV.o.base,rfl⟩
  clear hx hxc hgb HV hkt hxf2
  by_cases h4:kO y=4
  ·rw[if_pos h4]at HO
   rw[h4]at d0
   go_wp2_with fail
   refine(smy _).mono ?_
   rintro e w' ⟨rfl,hw⟩
   have hw:=hw.symm
   subst hw
   go_wp2
   go_ret
   exact .some_ BB.o HO.o.symm HF.o
  ·rw[if_neg h4]at HO
   have t4:((kO y:Int)==4)=false:=by simp;omega
   by_cases h6:kO y=6
   ·rw[if_pos h6]at HO
    rw[h6]at d0
    clear h4 t4
    go_wp2_with fail
    refine(smy _).mono ?_
    rintro e w' ⟨rfl,hw⟩
    have hw:=hw.symm
    subst hw
    go_wp2_with fail
    refine(smy _).mono ?_
    rintro e w' ⟨rfl,hw⟩
    have hw:=hw.symm
    subst hw
    go_wp2
    go_ret
    exact .some_ BB.o HO.o.symm HK.o
   ·rw[if_neg h6]at HO
    have t6:((kO y:Int)==6)=false:=by simp;omega
    generalize (kO y:Int)=ky at *
    clear h4 h6
    go_wp2_with fail
    refine(smy _).mono ?_
    rintro e w' ⟨rfl,hw⟩
    have hw:=hw.symm
    subst hw
    go_wp2_with fail
    refine(sn _).mono ?_
    rintro e w' ⟨rfl,rfl⟩
    exact⟨rfl,.none_ BB.o HO.o.symm⟩
end
end Go.Proofs.YtgkljcmjnphpeaaGreatDoor
