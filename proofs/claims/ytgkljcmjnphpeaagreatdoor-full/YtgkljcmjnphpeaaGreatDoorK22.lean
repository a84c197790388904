import Derived.Test.YtgkljcmjnphpeaaGreatDoorK21
set_option linter.unusedVariables false
set_option linter.unusedSimpArgs false
set_option maxHeartbeats 8000000
set_option maxRecDepth 100000
namespace Go.Proofs.YtgkljcmjnphpeaaGreatDoor
open Go.RowKit
section
variable{w w':World}{w0:World}{B bs cap:Nat}{ao:Option Addr}{data q:List Nat}{ov pv lv:Value}{vs:List Value}{Vs:List (VT 12)}{ps:List Value}{Ps:List (List Nat)}{pls:List Nat}
theorem obo(he0:Env B w0)(h:Fi w0 B bs ao cap data w q ov pv lv vs Vs ps Ps pls)(hpl:pls.length+q.length≤200000)(hvl:vs.length=pls.length)(hpp:ps.length=pls.length) :
  Calls Tryz.prog 139 #[.pointer (some ⟨bs,0,none⟩)] w (ObRes w0 B bs ao cap data Vs Ps pls (data.length-q.length) (Fo.object (pls.length+1) q)):=by
 obtain⟨i0,hi,hz0,hz1,hz2⟩:=info_parts iIW
 obtain⟨i1,gi,gz0,gz1,gz2⟩:=info_parts iV
 obtain⟨i2,bi,bz0,bz1,bz2⟩:=info_parts iB
 have HF:=hide h
 have HEW:Hid (∀ W:World,Only bs w0 W→Env B W):=fun W o=>he0.only h.sc.hb (Nat.le_trans h.sc.hb (Nat.le_of_lt h.lt)) o
 have hBw:=h.sc.env
 have hBb:=h.sc.hb
 have hlt:=h.lt
 have hlw:=h.sc.lt
 obtain⟨R,hR⟩:∃ R,Fo.object (pls.length+1) q=R:=⟨_,rfl⟩
 rw[hR]
 have HR:=hide hR
 unfold Fo.object at HR
 obtain⟨at_,hat⟩:∃ a,data.length-q.length=a:=⟨_,rfl⟩
 rw[hat]
 have c1:w.cell? ⟨bs,1,none⟩=some (.int .i64 (at_:Int)):=by rw[←hat];exact h.sc.c1
 have c4:w.cell? ⟨bs,4,none⟩=some lv:=h.sc.c4
 obtain⟨la,lc,hlv⟩:=ows h.ol
 have hatl:at_≤200000:=by rw[←hat];have:=h.sc.len;omega
 have HC:Hid (SC2 14 ⟨bs,4,none⟩ ⟨bs,1,none⟩ lv (.int .i64 (at_:Int)) (Array.replicate 15 false) w.drew):=⟨fun _=>c4,c1⟩
 clear h he0 hR hat
 go_enter Tryz.func139,Tryz.ntmps139
 go_wp2_with fail
 refine wrT (SC2 14 ⟨bs,4,none⟩ ⟨bs,1,none⟩ lv (.int .i64 (at_:Int))) (by kernel_rfl) ?_
 intro hD
 have hS:=HC.o
 refine ti 0 ?_ hD hS ?_
 clear hD hS;intro hD hS;(try simp only[putL])
 refine ti 1 ?_ hD hS ?_
 clear hD hS;intro hD hS;(try simp only[putL])
 refine ti 2 ?_ hD hS ?_
 clear hD hS;intro hD hS;(try simp only[putL])
 refine ti 3 ?_ hD hS ?_
 clear hD hS;intro hD hS;(try simp only[putL])
 refine tk 4 ?_ hD ?_ hS ?_
 rotate_left
 ·intro W hW;obtain⟨L,hDs,hL,hSL⟩:=hW;have hcl:=hSL.1 (by cases h9:L.getD 14 false with | false=>rfl | true=>exact absurd (hDs.came 3 14 (by kernel_rfl) h9) (by rw[gDiX hL];decide));go_simp;try(with_reducible rfl)
 clear hD hS;intro hD hS;(try simp only[putL])
 refine ti 5 ?_ hD hS ?_
 clear hD hS;intro hD hS;(try simp only[putL])
 refine ti 6 ?_ hD hS ?_
 clear hD hS;intro hD hS;(try simp only[putL])
 refine ti 7 ?_ hD hS ?_
 clear hD hS;intro hD hS;(try simp only[putL])
 refine ti 8 ?_ hD hS ?_
 clear hD hS;intro hD hS;(try simp only[putL])
 refine tk 9 ?_ hD ?_ hS ?_
 rotate_left
 ·intro W hW;obtain⟨L,hDs,hL,hSL⟩:=hW;have hcl:=hSL.2;go_simp;try(with_reducible rfl)
 clear hD hS;intro hD hS;(try simp only[putL])
 refine on 10 hD fun K' hK=>?_
 go_simp
 have H1:=hide (HF.o.drew.alloc (.cells #[.int .i64 (at_:Int)] 3))
 have e4:(w.drew.alloc (.cells #[.int .i64 (at_:Int)] 3)).cell? ⟨bs,4,none⟩=some lv:=H1.o.sc.c4
 have e1:(w.drew.alloc (.cells #[.int .i64 (at_:Int)] 3)).cell? ⟨bs,1,none⟩=some (.int .i64 (at_:Int)):=by rw[World.cell?_alloc_lt _ _ _ hlw];exact c1
 refine hK.o _ _ ⟨fun _=>e4,e1⟩ (fun hD2 hS2=>?_)
 clear hD hS hK K'
 have hD:=hD2
 have hS:=hS2
 clear hD2 hS2
 (try simp only[putL])
 refine on 11 hD fun K' hK=>?_
 refine saw rfl (.tmp 8) (.tmp 14) 52 rfl w0.heap.size 3 i0 (.int .i64 0) 1 8 Tryz.underlying52 hi hz0 hz1 hz2 rfl (by decide) lv pls.length (pls.map fun n:Nat=>.int .i64 (n:Int)) (by rw[hlv];rfl) H1.o.ol ⟨w.heap.size,0,none⟩ 1 1 [.int .i64 (at_:Int)] rfl rfl ?hnews ?hone ?h63 ?hby ?hbs ?_
 case hnews =>
  intro j u hu
  rw[aa]
  show(w.alloc (.cells #[.int .i64 (at_:Int)] 3)).cell? ⟨w.heap.size,j,none⟩=some u
  rw[ceb (bln w _)]
  simpa using hu
 case hone=>intro u hu;simp at hu;subst hu;rfl
 case h63=>unfold maxLen;omega
 case hby=>omega
 case hbs=>exact H1.o.only.size
 intro v6 w6 own6 hg6 hw6
 have H2:Hid (Fi w0 B bs ao cap data (w6.setCell ⟨bs,4,none⟩ v6) q ov pv v6 vs Vs ps Ps (pls++[at_])):=H1.o.place own6 hg6 hw6
 have hv6:=(hg6.block bs (lt_of_block H1.o.sc.blk) (fun e=>by have:=(H1.o.ol.lt _ e.symm).1;omega)).trans H1.o.sc.blk
 have hc6:w6.cell? ⟨bs,4,none⟩=some lv:=ceb hv6
 have hc61:w6.cell? ⟨bs,1,none⟩=some (.int .i64 (at_:Int)):=by rw[ceb hv6,←ceb H1.o.sc.blk];exact e1
 have hf6:w6.frozen? ⟨bs,4,none⟩=false:=frb hv6
 obtain⟨a6,c6,hv6s⟩:=ows own6
 subst hv6s
 clear own6 hg6 hw6 hv6 H1 e4 e1
 refine hK.o _ _ ⟨fun _=>hc6,hc61⟩ (fun hD2 hS2=>?_)
 clear hD hS hK K'
 have hD:=hD2
 have hS:=hS2
 clear hD2 hS2
 (try simp only[putL])
 refine on 12 hD fun K' hK=>?_
 go_simp
 refine hK.o _ _ ⟨fun _=>hc6,hc61⟩ (fun hD2 hS2=>?_)
 clear hD hS hK K'
 have hD:=hD2
 have hS:=hS2
 clear hD2 hS2
 (try simp only[putL])
 refine on 13 hD fun K' hK=>?_
 go_simp
 refine hK.o _ _ ⟨fun _=>hc6,hc61⟩ (fun hD2 hS2=>?_)
 clear hD hS hK K'
 have hD:=hD2
 have hS:=hS2
 clear hD2 hS2
 (try simp only[putL])
 refine on 14 hD fun K' hK=>?_
 go_simp
 refine hK.o _ _ ⟨fun h9=>(by cases h9),(World.cell?_setCell_other _ _ _ _ (by intro e;injection e with e1 e2;cases e2)).trans hc61⟩ (fun hD2 hS2=>?_)
 clear hD hS hK K'
 have hD:=hD2
 have hS:=hS2
 clear hD2 hS2
 (try simp only[putL])
 refine wATd (by kernel_rfl) ?_ _
 clear hD hS
 generalize w6.setCell ⟨bs,4,none⟩ (.slice a6 (pls.length+1) c6)=w1 at *
 obtain⟨N,hN⟩:∃ N,pls.length+1=N:=⟨_,rfl⟩
 rw[hN]at H2 HR
 have hNl:N≤200001:=by omega
 have HNN:=hide hN
 clear hN hc6 hc61 hf6 c1 c4 hlv HC HF
 have HS1:=hide H2.o.drew.sc
 have HE1:Hid (Env B w1.drew):=HEW.o _ H2.o.drew.only
 have hBw1:B≤w1.drew.heap.size:=H2.o.drew.sc.env
 go_wp2_with fail
 refine wrT (SC1 ⟨bs,4,none⟩ (.slice a6 N c6)) (by kernel_rfl) ?_
 intro hD
 have hS:SC1 ⟨bs,4,none⟩ (.slice a6 N c6) (Array.replicate 23 false) w1.drew:=HS1.o.c4
 refine ti 0 ?_ hD hS ?_
 clear hD hS;intro hD hS;(try simp only[putL])
 refine ti 1 ?_ hD hS ?_
 clear hD hS;intro hD hS;(try simp only[putL])
 refine ti 2 ?_ hD hS ?_
 clear hD hS;intro hD hS;(try simp only[putL])
 refine ti 3 ?_ hD hS ?_
 clear hD hS;intro hD hS;(try simp only[putL])
 refine ti 4 ?_ hD hS ?_
 clear hD hS;intro hD hS;(try simp only[putL])
 refine ti 5 ?_ hD hS ?_
 clear hD hS;intro hD hS;(try simp only[putL])
 refine tk 6 ?_ hD ?_ hS ?_
 rotate_left
 ·intro W hW;obtain⟨L,hDs,hL,hSL⟩:=hW;have hcl:W.cell? ⟨bs,4,none⟩=some (.slice a6 N c6):=hSL;go_simp;try(with_reducible rfl)
 clear hD hS;intro hD hS;(try simp only[putL])
 refine ti 7 ?_ hD hS ?_
 clear hD hS;intro hD hS;(try simp only[putL])
 refine on 8 hD fun K' hK=>?_
 go_simp
 refine(io HE1.o hBw1 N (by omega)).mono ?_
 rintro e w2 ⟨rfl,b2⟩
 have H3:=hide (H2.o.drew.below b2)
 have HT1:=hide (sWo H3.o.sc (strN (Fo.dec N)))
 rw[bsN _ (deb N)]at HT1
 generalize strN (Fo.dec N)=D at *
 clear b2 HS1 HE1 hBw1
 refine hK.o _ _ H3.o.sc.c4 (fun hD2 hS2=>?_)
 clear hD hS hK K'
 have hD:=hD2
 have hS:=hS2
 clear hD2 hS2
 (try simp only[putL])
 cases e1:Fo.takesWord (Fo.dec N) q with
 |none =>
  rw[e1]at HT1 HR
  have HRN:Hid (R=none):=HR.o.symm
  clear HR
  refine on 9 hD fun K' hK=>?_
  go_simp
  refine HT1.o.mono ?_
  rintro e w3 ⟨rfl,h3,k3⟩
  have H4:=hide (H3.o.step (show Sc B bs ao cap data _ _ _ w3 q from h3) k3)
  clear h3 k3 HT1
  refine hK.o _ _ H4.o.sc.c4 (fun hD2 hS2=>?_)
  clear hD hS hK K'
  have hD:=hD2
  have hS:=hS2
  clear hD2 hS2
  (try simp only[putL])
  refine on 10 hD fun K' hK=>?_
  go_simp
  refine hK.o _ _ H4.o.sc.c4 (fun hD2 hS2=>?_)
  clear hD hS hK K'
  have hD:=hD2
  have hS:=hS2
  clear hD2 hS2
  (try simp only[putL])
  refine tu 11 hD hS ?_
  clear hD hS;intro hD hS;(try simp only[putL])
  refine tu 12 hD hS ?_
  clear hD hS;intro hD hS;(try simp only[putL])
  refine tu 13 hD hS ?_
  clear hD hS;intro hD hS;(try simp only[putL])
  refine tu 14 hD hS ?_
  clear hD hS;intro hD hS;(try simp only[putL])
  refine on 15 hD fun K' hK=>?_
  go_simp
  refine hK.o _ _ H4.o.sc.c4 (fun hD2 hS2=>?_)
  clear hD hS hK K'
  have hD:=hD2
  have hS:=hS2
  clear hD2 hS2
  (try simp only[putL])
  refine on 16 hD fun K' hK=>?_
  go_simp
  refine hK.o _ _ H4.o.sc.c4 (fun hD2 hS2=>?_)
  clear hD hS hK K'
  have hD:=hD2
  have hS:=hS2
  clear hD2 hS2
  (try simp only[putL])
  refine tu 17 hD hS ?_
  clear hD hS;intro hD hS;(try simp only[putL])
  refine tu 18 hD hS ?_
  clear hD hS;intro hD hS;(try simp only[putL])
  refine tu 19 hD hS ?_
  clear hD hS;intro hD hS;(try simp only[putL])
  refine tu 20 hD hS ?_
  clear hD hS;intro hD hS;(try simp only[putL])
  refine on 21 hD fun K' hK=>?_
  go_simp
  refine hK.o _ _ H4.o.sc.c4 (fun hD2 hS2=>?_)
  clear hD hS hK K'
  have hD:=hD2
  have hS:=hS2
  clear hD2 hS2
  (try simp only[putL])
  refine on 22 hD fun K' hK=>?_
  go_simp
  refine(sn _).mono ?_
  rintro e w' ⟨rfl,rfl⟩
  exact⟨rfl,.none_ HRN.o H4.o.only⟩
 |some q1 =>
  have hq1:=Fo.takesWord_len e1
  rw[e1]at HT1 HR
  simp only[]at HR
  clear e1
  refine on 9 hD fun K' hK=>?_
  go_simp
  refine HT1.o.mono ?_
  rintro e w3 ⟨rfl,h3,k3⟩
  have H4:=hide (H3.o.step (show Sc B bs ao cap data _ _ _ w3 q1 from h3) k3)
  have HT2:=hide (sWo H4.o.sc { data:=#[48] })
  rw[show bl { data:=#[48] }=[48]from rfl]at HT2
  clear h3 k3 HT1 H3
  refine hK.o _ _ H4.o.sc.c4 (fun hD2 hS2=>?_)
  clear hD hS hK K'
  have hD:=hD2
  have hS:=hS2
  clear hD2 hS2
  (try simp only[putL])
  refine on 10 hD fun K' hK=>?_
  go_simp
  refine hK.o _ _ H4.o.sc.c4 (fun hD2 hS2=>?_)
  clear hD hS hK K'
  have hD:=hD2
  have hS:=hS2
  clear hD2 hS2
  (try simp only[putL])
  refine ti 11 ?_ hD hS ?_
  clear hD hS;intro hD hS;(try simp only[putL])
  refine ti 12 ?_ hD hS ?_
  clear hD hS;intro hD hS;(try simp only[putL])
  refine ti 13 ?_ hD hS ?_
  clear hD hS;intro hD hS;(try simp only[putL])
  cases e2:Fo.takesWord [48] q1 with
  |none =>
   rw[e2]at HT2 HR
   have HRN:Hid (R=none):=HR.o.symm
   clear HR
   refine on 14 hD fun K' hK=>?_
   go_simp
   refine HT2.o.mono ?_
   rintro e w4 ⟨rfl,h4,k4⟩
   have H5:=hide (H4.o.step (show Sc B bs ao cap data _ _ _ w4 q1 from h4) k4)
   clear h4 k4 HT2
   refine hK.o _ _ H5.o.sc.c4 (fun hD2 hS2=>?_)
   clear hD hS hK K'
   have hD:=hD2
   have hS:=hS2
   clear hD2 hS2
   (try simp only[putL])
   refine on 15 hD fun K' hK=>?_
   go_simp
   refine hK.o _ _ H5.o.sc.c4 (fun hD2 hS2=>?_)
   clear hD hS hK K'
   have hD:=hD2
   have hS:=hS2
   clear hD2 hS2
   (try simp only[putL])
   refine on 16 hD fun K' hK=>?_
   go_simp
   refine hK.o _ _ H5.o.sc.c4 (fun hD2 hS2=>?_)
   clear hD hS hK K'
   have hD:=hD2
   have hS:=hS2
   clear hD2 hS2
   (try simp only[putL])
   refine tu 17 hD hS ?_
   clear hD hS;intro hD hS;(try simp only[putL])
   refine tu 18 hD hS ?_
   clear hD hS;intro hD hS;(try simp only[putL])
   refine tu 19 hD hS ?_
   clear hD hS;intro hD hS;(try simp only[putL])
   refine tu 20 hD hS ?_
   clear hD hS;intro hD hS;(try simp only[putL])
   refine on 21 hD fun K' hK=>?_
   go_simp
   refine hK.o _ _ H5.o.sc.c4 (fun hD2 hS2=>?_)
   clear hD hS hK K'
   have hD:=hD2
   have hS:=hS2
   clear hD2 hS2
   (try simp only[putL])
   refine on 22 hD fun K' hK=>?_
   go_simp
   refine(sn _).mono ?_
   rintro e w' ⟨rfl,rfl⟩
   exact⟨rfl,.none_ HRN.o H5.o.only⟩
  |some q2 =>
   have hq2:=Fo.takesWord_len e2
   rw[e2]at HT2 HR
   simp only[]at HR
   clear e2
   refine on 14 hD fun K' hK=>?_
   go_simp
   refine HT2.o.mono ?_
   rintro e w4 ⟨rfl,h4,k4⟩
   have H5:=hide (H4.o.step (show Sc B bs ao cap data _ _ _ w4 q2 from h4) k4)
   have HT3:=hide (sWo H5.o.sc { data:=#[111,98,106] })
   rw[show bl { data:=#[111,98,106] }=[111,98,106]from rfl]at HT3
   clear h4 k4 HT2 H4
   refine hK.o _ _ H5.o.sc.c4 (fun hD2 hS2=>?_)
   clear hD hS hK K'
   have hD:=hD2
   have hS:=hS2
   clear hD2 hS2
   (try simp only[putL])
   refine on 15 hD fun K' hK=>?_
   go_simp
   refine hK.o _ _ H5.o.sc.c4 (fun hD2 hS2=>?_)
   clear hD hS hK K'
   have hD:=hD2
   have hS:=hS2
   clear hD2 hS2
   (try simp only[putL])
   refine on 16 hD fun K' hK=>?_
   go_simp
   refine hK.o _ _ H5.o.sc.c4 (fun hD2 hS2=>?_)
   clear hD hS hK K'
   have hD:=hD2
   have hS:=hS2
   clear hD2 hS2
   (try simp only[putL])
   refine ti 17 ?_ hD hS ?_
   clear hD hS;intro hD hS;(try simp only[putL])
   refine ti 18 ?_ hD hS ?_
   clear hD hS;intro hD hS;(try simp only[putL])
   refine ti 19 ?_ hD hS ?_
   clear hD hS;intro hD hS;(try simp only[putL])
   cases e3:Fo.takesWord [111,98,106] q2 with
   |none =>
    rw[e3]at HT3 HR
    have HRN:Hid (R=none):=HR.o.symm
    clear HR
    refine on 20 hD fun K' hK=>?_
    go_simp
    refine HT3.o.mono ?_
    rintro e w5 ⟨rfl,h5,k5⟩
    have H6:=hide (H5.o.step (show Sc B bs ao cap data _ _ _ w5 q2 from h5) k5)
    clear h5 k5 HT3
    refine hK.o _ _ H6.o.sc.c4 (fun hD2 hS2=>?_)
    clear hD hS hK K'
    have hD:=hD2
    have hS:=hS2
    clear hD2 hS2
    (try simp only[putL])
    refine on 21 hD fun K' hK=>?_
    go_simp
    refine hK.o _ _ H6.o.sc.c4 (fun hD2 hS2=>?_)
    clear hD hS hK K'
    have hD:=hD2
    have hS:=hS2
    clear hD2 hS2
    (try simp only[putL])
    refine on 22 hD fun K' hK=>?_
    go_simp
    refine(sn _).mono ?_
    rintro e w' ⟨rfl,rfl⟩
    exact⟨rfl,.none_ HRN.o H6.o.only⟩
   |some q3 =>
    have hq3:=Fo.takesWord_len e3
    rw[e3]at HT3 HR
    simp only[]at HR
    clear e3
    refine on 20 hD fun K' hK=>?_
    go_simp
    refine HT3.o.mono ?_
    rintro e w5 ⟨rfl,h5,k5⟩
    have H6:=hide (H5.o.step (show Sc B bs ao cap data _ _ _ w5 q3 from h5) k5)
    clear h5 k5 HT3 H5
    refine hK.o _ _ H6.o.sc.c4 (fun hD2 hS2=>?_)
    clear hD hS hK K'
    have hD:=hD2
    have hS:=hS2
    clear hD2 hS2
    (try simp only[putL])
    refine on 21 hD fun K' hK=>?_
    go_simp
    refine hK.o _ _ H6.o.sc.c4 (fun hD2 hS2=>?_)
    clear hD hS hK K'
    have hD:=hD2
    have hS:=hS2
    clear hD2 hS2
    (try simp only[putL])
    refine on 22 hD fun K' hK=>?_
    go_simp
    refine(smy _).mono ?_
    rintro e w' ⟨rfl,hw⟩
    have hw:=hw.symm
    subst hw
    refine hK.o _ _ H6.o.sc.c4 (fun hD2 hS2=>?_)
    clear hD hS hK K'
    have hD:=hD2
    have hS:=hS2
    clear hD2 hS2
    (try simp only[putL])
    refine wATd (by kernel_rfl) ?_ _
    clear hD hS
    refine(show Exit.then _ _ Exit.normal _ _ from(‹∀(a:Act) (w:World),Code.wp Tryz.prog _ _ a w→_› _ _ ?_))
    exact obr HEW H6 (by omega) (by omega) HR (Eq.refl (pls++[at_])) _ _ _ _ _ _ _ _ _ _ _ _ _ _ _ _ _ _ _ _ _ _ _ _ _ _ _ _ _ _ _ _ _ _ _ _ _
end
end Go.Proofs.YtgkljcmjnphpeaaGreatDoor
