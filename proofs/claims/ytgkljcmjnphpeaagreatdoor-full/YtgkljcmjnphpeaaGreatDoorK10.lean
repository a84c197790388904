import Derived.Test.YtgkljcmjnphpeaaGreatDoorK09
set_option linter.unusedVariables false
set_option linter.unusedSimpArgs false
set_option maxHeartbeats 8000000
set_option maxRecDepth 100000
namespace Go.Proofs.YtgkljcmjnphpeaaGreatDoor
open Go.RowKit
section
variable{B bs cap k:Nat}{ao:Option Addr}{data:List Nat}{x2 x3 x4:Value}{w w1 w':World}{q r:List Nat}
theorem nof{v:Value}{V:VT k}(hs:Sc B bs ao cap data x2 x3 x4 w1 q)(ho:Only bs w w1)(hrb:w1.heap[w.heap.size]?=some (.cells zero7 67 (0,0)))(hlt:bs<w.heap.size)(hv:VIn (fun g=>w.heap.size≤g∧g≠w.heap.size) k w1 v V)(a0 a1 a2 a3 a4 a5 a6:Value)(hva:v=.agg #[a0,a1,a2,a3,a4,a5,a6]) :
  let w2:=((((((w1.setCell ⟨w.heap.size,0,none⟩ a0).setCell ⟨w.heap.size,1,none⟩ a1).setCell ⟨w.heap.size,2,none⟩ a2).setCell ⟨w.heap.size,3,none⟩ a3).setCell ⟨w.heap.size,4,none⟩ a4).setCell ⟨w.heap.size,5,none⟩ a5).setCell ⟨w.heap.size,6,none⟩ a6
  w2.heap[w.heap.size]?=some (.cells #[a0,a1,a2,a3,a4,a5,a6] 67 (0,0))∧VIn (fun g=>w.heap.size≤g) k w2 (.agg #[a0,a1,a2,a3,a4,a5,a6]) V∧Sc B bs ao cap data x2 x3 x4 w2 q∧Only bs w w2:=by
 have o:=only7 w1 w.heap.size a0 a1 a2 a3 a4 a5 a6
 have hb:=hs.hb
 have hl:=hs.lt
 have hsz:=ho.size
 refine⟨set7 hrb _ _ _ _ _ _ _,?_,?_,?_⟩
 ·rw[←hva]
  exact VIn.mono k (VIn.keep k hv (fun g h1 h2=>o.block g h2 h1.2)) (fun g h _=>h.1)
 ·exact⟨hs.hb,by rw[o.block _ hl (by omega)];exact hs.blk,hs.dat.other (fun g hg=>o.block g (by omega) (by omega)),hs.byt,hs.len,hs.lc,hs.le,hs.suf,hs.ad⟩
 ·exact⟨o.os.trans ho.os,o.tape.trans ho.tape,o.output.trans ho.output,Nat.le_trans hsz o.size,fun g h1 h2=>(o.block g (by omega) (by omega)).trans (ho.block g h1 h2)⟩
theorem svz:VO B bs ao cap data x2 x3 x4 0:=by
 intro w r he h
 have BW:Hid (Below w.heap.size w (w.alloc (.cells zero7 67))):=(Below.refl _ _).alloc (Nat.le_refl _) _
 clear he h
 show Calls Tryz.prog 192 #[.pointer (some ⟨bs,0,none⟩),.int .i64 (13:Int)] w _
 go_enter Tryz.func192,Tryz.ntmps192
 go_wp2_with fail
 refine(win 13 1 12 _ (Or.inr (by decide))).mono ?_
 rintro e w' ⟨rfl,rfl⟩
 go_wp2_with fail
 refine(sn _).mono ?_
 rintro e w' ⟨rfl,rfl⟩
 exact⟨rfl,SRes.none_ rfl (.of_below BW.o)⟩
theorem svs(hk:k≤11)(ih:VO B bs ao cap data x2 x3 x4 k):VO B bs ao cap data x2 x3 x4 (k+1):=by
 intro w r he h
 have IH:=hide ih
 have LT:=hide h.lt
 have BW:Hid (Below w.heap.size w (w.alloc (.cells zero7 67))):=(Below.refl _ _).alloc (Nat.le_refl _) _
 have HS:=hide (h.other BW.o)
 have hrb:(w.alloc (.cells zero7 67)).heap[w.heap.size]?=some (.cells zero7 67 (0,0)):=bln _ _
 have hBw:B≤w.heap.size:=Nat.le_of_lt (Nat.lt_of_le_of_lt h.hb h.lt)
 have HE:=hide he
 have HO:Hid (Only bs w (w.alloc (.cells zero7 67))):=.of_below BW.o
 obtain⟨R,hR⟩:∃ R,Fo.value (k+1) r=R:=⟨_,rfl⟩
 rw[hR]
 have HR:=hide hR
 unfold Fo.value at HR
 generalize hWW:w.alloc (.cells zero7 67)=W at *
 have HWW:Hid (w.alloc (.cells #[.int .i64 0,.int .i64 0,.int .i64 0,.string { data:=#[] },.slice none 0 0,.slice none 0 0,.slice none 0 0] 67)=W):=hWW
 rw[show 13-(k+1)=12-k by omega]
 have hd1:(1:Int)≤((12-k:Nat):Int):=by omega
 have hd2:((12-k:Nat):Int)≤12:=by omega
 clear he h hR hWW ih
 go_enter Tryz.func192,Tryz.ntmps192
 go_wp2_with fail
 rw[HWW.o]
 refine(wiy _ 1 12 _ hd1 hd2).mono ?_
 rintro e w' ⟨rfl,rfl⟩
 go_wp2_with fail
 refine(smy _).mono ?_
 rintro e w' ⟨rfl,rfl⟩
 have HM:=hide (smo HS.o { data:=#[91] } (by decide) (by decide))
 rw[show bl { data:=#[91] }=[91]from rfl]at HM
 cases ht:Fo.takes [91] (Fo.skip r)with
 |some t =>
  rw[ht]at HM HR
  simp only[]at HR
  clear ht
  go_wp2_with fail
  refine HM.o.mono ?_
  rintro e w2 ⟨rfl,h2,k2⟩
  have hrb2:w2.heap[w.heap.size]?=some (.cells zero7 67 (0,0)):=by rw[k2.block _ (lt_of_block hrb) (by have:=LT.o;omega)];exact hrb
  have HO2:=hide (HO.o.trans k2)
  clear HS HO hrb HM k2
  have HS:=hide (show Sc B bs ao cap data x2 x3 x4 w2 t from h2)
  have HO:=HO2
  have hrb:=hrb2
  clear h2 HO2 hrb2
  have HV:Hid (Calls Tryz.prog 252 #[.pointer (some ⟨bs,0,none⟩),.int .i64 (12-k:Nat)] w2 (VRes B bs ao cap data x2 x3 x4 (k+1) R w2)):=by
   unfold Hid
   rw[←HR.o]
   exact so_2 hk IH.o (HE.o.only HS.o.hb hBw HO.o) HS.o
  clear HR
  cases R with
  |none =>
   have HF:Hid ((none:Option (VT (k+1) × List Nat))=none):=rfl
   go_wp2_with fail
   refine HV.o.mono ?_
   rintro e w3 ⟨rfl,k3⟩
   exact⟨rfl,SRes.none_ (by first | exact HF.o | rfl) (HO.o.trans k3)⟩
  |some x =>
   obtain⟨V,q2⟩:=x
   have HF:Hid ((some (V,q2):Option (VT (k+1) × List Nat))=some (V,q2)):=rfl
   go_wp2_with fail
   refine HV.o.mono ?_
   rintro e w3 ⟨v,rfl,hv,h3,k3⟩
   have hrb3:w3.heap[w.heap.size]?=some (.cells zero7 67 (0,0)):=by rw[k3.block _ (lt_of_block hrb) (by have:=LT.o;omega)];exact hrb
   have HN:=hide (nof h3 (HO.o.trans k3) hrb3 LT.o (VIn.mono (k+1) hv (fun g h _=>by have h1:_≤g:=h;have:=lt_of_block hrb;exact⟨by omega,by omega⟩)))
   obtain⟨kd,nn,pp,TT,ia,il,ic,ka,kl,kc,fa,fl,fc,rfl⟩:=VIn.form hv
   clear hrb HS HO HV hv h3 k3
   have hrb:=hrb3
   have r0:w3.cell? ⟨w.heap.size,0,none⟩=some (.int .i64 0):=ceb hrb
   have r1:w3.cell? ⟨w.heap.size,1,none⟩=some (.int .i64 0):=ceb hrb
   have r2:w3.cell? ⟨w.heap.size,2,none⟩=some (.int .i64 0):=ceb hrb
   have r3:w3.cell? ⟨w.heap.size,3,none⟩=some (.string { data:=#[] }):=ceb hrb
   have r4:w3.cell? ⟨w.heap.size,4,none⟩=some (.slice none 0 0):=ceb hrb
   have r5:w3.cell? ⟨w.heap.size,5,none⟩=some (.slice none 0 0):=ceb hrb
   have r6:w3.cell? ⟨w.heap.size,6,none⟩=some (.slice none 0 0):=ceb hrb
   have f0:w3.frozen? ⟨w.heap.size,0,none⟩=false:=frb hrb
   have f1:w3.frozen? ⟨w.heap.size,1,none⟩=false:=frb hrb
   have f2:w3.frozen? ⟨w.heap.size,2,none⟩=false:=frb hrb
   have f3:w3.frozen? ⟨w.heap.size,3,none⟩=false:=frb hrb
   have f4:w3.frozen? ⟨w.heap.size,4,none⟩=false:=frb hrb
   have f5:w3.frozen? ⟨w.heap.size,5,none⟩=false:=frb hrb
   have f6:w3.frozen? ⟨w.heap.size,6,none⟩=false:=frb hrb
   have HL:=hide (HN.o _ _ _ _ _ _ _ rfl)
   clear hrb hrb3 HN
   go_wp2
   refine bodyPost_ret (v:=.agg #[.int .i64 kd,.int .i64 nn,.int .i64 pp,.string TT,.slice ia il ic,.slice ka kl kc,.slice fa fl fc]) ?_ rfl ?_
   ·exact results_cell_row Tryz.results192 _ _ w.heap.size 67 _ _ _ rfl HL.o.1 Tryz.underlying67 rfl (by kernel_rfl)
   exact SRes.some_ (by first | exact HF.o | rfl) HL.o.2.1 HL.o.2.2.1 HL.o.2.2.2
 |none =>
  rw[ht]at HM HR
  simp only[]at HR
  clear ht
  go_wp2_with fail
  refine HM.o.mono ?_
  rintro e w2 ⟨rfl,h2,k2⟩
  have hrb2:w2.heap[w.heap.size]?=some (.cells zero7 67 (0,0)):=by rw[k2.block _ (lt_of_block hrb) (by have:=LT.o;omega)];exact hrb
  have HO2:=hide (HO.o.trans k2)
  clear HS HO hrb HM k2
  have HS:=hide (show Sc B bs ao cap data x2 x3 x4 w2 (Fo.skip r)from h2)
  have HO:=HO2
  have hrb:=hrb2
  clear h2 HO2 hrb2
  have HM:=hide (smo HS.o { data:=#[60,60] } (by decide) (by decide))
  rw[show bl { data:=#[60,60] }=[60,60]from rfl,Fo.skip_skip]at HM
  cases ht:Fo.takes [60,60] (Fo.skip r)with
  |some t =>
   rw[ht]at HM HR
   simp only[]at HR
   clear ht
   go_wp2_with fail
   refine HM.o.mono ?_
   rintro e w2 ⟨rfl,h2,k2⟩
   have hrb2:w2.heap[w.heap.size]?=some (.cells zero7 67 (0,0)):=by rw[k2.block _ (lt_of_block hrb) (by have:=LT.o;omega)];exact hrb
   have HO2:=hide (HO.o.trans k2)
   clear HS HO hrb HM k2
   have HS:=hide (show Sc B bs ao cap data x2 x3 x4 w2 t from h2)
   have HO:=HO2
   have hrb:=hrb2
   clear h2 HO2 hrb2
   have HV:Hid (Calls Tryz.prog 197 #[.pointer (some ⟨bs,0,none⟩),.int .i64 (12-k:Nat)] w2 (VRes B bs ao cap data x2 x3 x4 (k+1) R w2)):=by
    unfold Hid
    rw[←HR.o]
    exact sdo hk IH.o (HE.o.only HS.o.hb hBw HO.o) HS.o
   clear HR
   cases R with
   |none =>
    have HF:Hid ((none:Option (VT (k+1) × List Nat))=none):=rfl
    go_wp2_with fail
    refine HV.o.mono ?_
    rintro e w3 ⟨rfl,k3⟩
    exact⟨rfl,SRes.none_ (by first | exact HF.o | rfl) (HO.o.trans k3)⟩
   |some x =>
    obtain⟨V,q2⟩:=x
    have HF:Hid ((some (V,q2):Option (VT (k+1) × List Nat))=some (V,q2)):=rfl
    go_wp2_with fail
    refine HV.o.mono ?_
    rintro e w3 ⟨v,rfl,hv,h3,k3⟩
    have hrb3:w3.heap[w.heap.size]?=some (.cells zero7 67 (0,0)):=by rw[k3.block _ (lt_of_block hrb) (by have:=LT.o;omega)];exact hrb
    have HN:=hide (nof h3 (HO.o.trans k3) hrb3 LT.o (VIn.mono (k+1) hv (fun g h _=>by have h1:_≤g:=h;have:=lt_of_block hrb;exact⟨by omega,by omega⟩)))
    obtain⟨kd,nn,pp,TT,ia,il,ic,ka,kl,kc,fa,fl,fc,rfl⟩:=VIn.form hv
    clear hrb HS HO HV hv h3 k3
    have hrb:=hrb3
    have r0:w3.cell? ⟨w.heap.size,0,none⟩=some (.int .i64 0):=ceb hrb
    have r1:w3.cell? ⟨w.heap.size,1,none⟩=some (.int .i64 0):=ceb hrb
    have r2:w3.cell? ⟨w.heap.size,2,none⟩=some (.int .i64 0):=ceb hrb
    have r3:w3.cell? ⟨w.heap.size,3,none⟩=some (.string { data:=#[] }):=ceb hrb
    have r4:w3.cell? ⟨w.heap.size,4,none⟩=some (.slice none 0 0):=ceb hrb
    have r5:w3.cell? ⟨w.heap.size,5,none⟩=some (.slice none 0 0):=ceb hrb
    have r6:w3.cell? ⟨w.heap.size,6,none⟩=some (.slice none 0 0):=ceb hrb
    have f0:w3.frozen? ⟨w.heap.size,0,none⟩=false:=frb hrb
    have f1:w3.frozen? ⟨w.heap.size,1,none⟩=false:=frb hrb
    have f2:w3.frozen? ⟨w.heap.size,2,none⟩=false:=frb hrb
    have f3:w3.frozen? ⟨w.heap.size,3,none⟩=false:=frb hrb
    have f4:w3.frozen? ⟨w.heap.size,4,none⟩=false:=frb hrb
    have f5:w3.frozen? ⟨w.heap.size,5,none⟩=false:=frb hrb
    have f6:w3.frozen? ⟨w.heap.size,6,none⟩=false:=frb hrb
    have HL:=hide (HN.o _ _ _ _ _ _ _ rfl)
    clear hrb hrb3 HN
    go_wp2
    refine bodyPost_ret (v:=.agg #[.int .i64 kd,.int .i64 nn,.int .i64 pp,.string TT,.slice ia il ic,.slice ka kl kc,.slice fa fl fc]) ?_ rfl ?_
    ·exact results_cell_row Tryz.results192 _ _ w.heap.size 67 _ _ _ rfl HL.o.1 Tryz.underlying67 rfl (by kernel_rfl)
    exact SRes.some_ (by first | exact HF.o | rfl) HL.o.2.1 HL.o.2.2.1 HL.o.2.2.2
  |none =>
   rw[ht]at HM HR
   simp only[]at HR
   clear ht
   go_wp2_with fail
   refine HM.o.mono ?_
   rintro e w2 ⟨rfl,h2,k2⟩
   have hrb2:w2.heap[w.heap.size]?=some (.cells zero7 67 (0,0)):=by rw[k2.block _ (lt_of_block hrb) (by have:=LT.o;omega)];exact hrb
   have HO2:=hide (HO.o.trans k2)
   clear HS HO hrb HM k2
   have HS:=hide (show Sc B bs ao cap data x2 x3 x4 w2 (Fo.skip r)from h2)
   have HO:=HO2
   have hrb:=hrb2
   clear h2 HO2 hrb2
   have HM:=hide (smo HS.o { data:=#[60] } (by decide) (by decide))
   rw[show bl { data:=#[60] }=[60]from rfl,Fo.skip_skip]at HM
   cases ht:Fo.takes [60] (Fo.skip r)with
   |some t =>
    rw[ht]at HM HR
    simp only[]at HR
    clear ht
    go_wp2_with fail
    refine HM.o.mono ?_
    rintro e w2 ⟨rfl,h2,k2⟩
    have hrb2:w2.heap[w.heap.size]?=some (.cells zero7 67 (0,0)):=by rw[k2.block _ (lt_of_block hrb) (by have:=LT.o;omega)];exact hrb
    have HO2:=hide (HO.o.trans k2)
    clear HS HO hrb HM k2
    have HS:=hide (show Sc B bs ao cap data x2 x3 x4 w2 t from h2)
    have HO:=HO2
    have hrb:=hrb2
    clear h2 HO2 hrb2
    have HV:=hide (sTo HS.o)
    cases hX:Fo.hexText t with
    |none =>
     rw[hX]at HV HR
     have HF:Hid (R=none):=HR.o.symm
     clear hX HR
     go_wp2_with fail
     refine HV.o.mono ?_
     rintro e w3 ⟨rfl,k3⟩
     exact⟨rfl,SRes.none_ (by first | exact HF.o | rfl) (HO.o.trans k3)⟩
    |some x =>
     obtain⟨tx,q2⟩:=x
     rw[hX]at HV HR
     have HF:Hid (R=some (leafN (VT k) 5 0 0 tx,q2)):=HR.o.symm
     clear hX HR
     go_wp2_with fail
     refine HV.o.mono ?_
     rintro e w3 ⟨v,rfl,rfl,h3,k3⟩
     have hrb3:w3.heap[w.heap.size]?=some (.cells zero7 67 (0,0)):=by rw[k3.block _ (lt_of_block hrb) (by have:=LT.o;omega)];exact hrb
     have HO3:=hide (HO.o.trans k3)
     clear HS HO hrb HV k3
     have HS:=hide h3
     have HO:=HO3
     have hrb:=hrb3
     clear h3 HO3 hrb3
     have r0:w3.cell? ⟨w.heap.size,0,none⟩=some (.int .i64 0):=ceb hrb
     have r1:w3.cell? ⟨w.heap.size,1,none⟩=some (.int .i64 0):=ceb hrb
     have r2:w3.cell? ⟨w.heap.size,2,none⟩=some (.int .i64 0):=ceb hrb
     have r3:w3.cell? ⟨w.heap.size,3,none⟩=some (.string { data:=#[] }):=ceb hrb
     have r4:w3.cell? ⟨w.heap.size,4,none⟩=some (.slice none 0 0):=ceb hrb
     have r5:w3.cell? ⟨w.heap.size,5,none⟩=some (.slice none 0 0):=ceb hrb
     have r6:w3.cell? ⟨w.heap.size,6,none⟩=some (.slice none 0 0):=ceb hrb
     have f0:w3.frozen? ⟨w.heap.size,0,none⟩=false:=frb hrb
     have f1:w3.frozen? ⟨w.heap.size,1,none⟩=false:=frb hrb
     have f2:w3.frozen? ⟨w.heap.size,2,none⟩=false:=frb hrb
     have f3:w3.frozen? ⟨w.heap.size,3,none⟩=false:=frb hrb
     have f4:w3.frozen? ⟨w.heap.size,4,none⟩=false:=frb hrb
     have f5:w3.frozen? ⟨w.heap.size,5,none⟩=false:=frb hrb
     have f6:w3.frozen? ⟨w.heap.size,6,none⟩=false:=frb hrb
     have HL:=hide (lf (k:=k) HS.o HO.o hrb 5 0 0 tx LT.o)
     clear hrb
     go_wp2
     refine bodyPost_ret (v:=.agg #[.int .i64 5,.int .i64 0,.int .i64 (0:Nat),.string (strN tx),.slice none 0 0,.slice none 0 0,.slice none 0 0]) ?_ rfl ?_
     ·exact results_cell_row Tryz.results192 _ _ w.heap.size 67 _ _ _ rfl HL.o.1 Tryz.underlying67 rfl (by kernel_rfl)
     exact SRes.some_ (by first | exact HF.o | rfl) HL.o.2.1 HL.o.2.2.1 HL.o.2.2.2
   |none =>
    rw[ht]at HM HR
    simp only[]at HR
    clear ht
    go_wp2_with fail
    refine HM.o.mono ?_
    rintro e w2 ⟨rfl,h2,k2⟩
    have hrb2:w2.heap[w.heap.size]?=some (.cells zero7 67 (0,0)):=by rw[k2.block _ (lt_of_block hrb) (by have:=LT.o;omega)];exact hrb
    have HO2:=hide (HO.o.trans k2)
    clear HS HO hrb HM k2
    have HS:=hide (show Sc B bs ao cap data x2 x3 x4 w2 (Fo.skip r)from h2)
    have HO:=HO2
    have hrb:=hrb2
    clear h2 HO2 hrb2
    have HM:=hide (smo HS.o { data:=#[40] } (by decide) (by decide))
    rw[show bl { data:=#[40] }=[40]from rfl,Fo.skip_skip]at HM
    cases ht:Fo.takes [40] (Fo.skip r)with
    |some t =>
     rw[ht]at HM HR
     simp only[]at HR
     clear ht
     go_wp2_with fail
     refine HM.o.mono ?_
     rintro e w2 ⟨rfl,h2,k2⟩
     have hrb2:w2.heap[w.heap.size]?=some (.cells zero7 67 (0,0)):=by rw[k2.block _ (lt_of_block hrb) (by have:=LT.o;omega)];exact hrb
     have HO2:=hide (HO.o.trans k2)
     clear HS HO hrb HM k2
     have HS:=hide (show Sc B bs ao cap data x2 x3 x4 w2 t from h2)
     have HO:=HO2
     have hrb:=hrb2
     clear h2 HO2 hrb2
     have HV:=hide (sqo HS.o)
     cases hX:Fo.quoted t with
     |none =>
      rw[hX]at HV HR
      have HF:Hid (R=none):=HR.o.symm
      clear hX HR
      go_wp2_with fail
      refine HV.o.mono ?_
      rintro e w3 ⟨rfl,k3⟩
      exact⟨rfl,SRes.none_ (by first | exact HF.o | rfl) (HO.o.trans k3)⟩
     |some x =>
      obtain⟨tx,q2⟩:=x
      rw[hX]at HV HR
      have HF:Hid (R=some (leafN (VT k) 5 0 0 tx,q2)):=HR.o.symm
      clear hX HR
      go_wp2_with fail
      refine HV.o.mono ?_
      rintro e w3 ⟨v,rfl,rfl,h3,k3⟩
      have hrb3:w3.heap[w.heap.size]?=some (.cells zero7 67 (0,0)):=by rw[k3.block _ (lt_of_block hrb) (by have:=LT.o;omega)];exact hrb
      have HO3:=hide (HO.o.trans k3)
      clear HS HO hrb HV k3
      have HS:=hide h3
      have HO:=HO3
      have hrb:=hrb3
      clear h3 HO3 hrb3
      have r0:w3.cell? ⟨w.heap.size,0,none⟩=some (.int .i64 0):=ceb hrb
      have r1:w3.cell? ⟨w.heap.size,1,none⟩=some (.int .i64 0):=ceb hrb
      have r2:w3.cell? ⟨w.heap.size,2,none⟩=some (.int .i64 0):=ceb hrb
      have r3:w3.cell? ⟨w.heap.size,3,none⟩=some (.string { data:=#[] }):=ceb hrb
      have r4:w3.cell? ⟨w.heap.size,4,none⟩=some (.slice none 0 0):=ceb hrb
      have r5:w3.cell? ⟨w.heap.size,5,none⟩=some (.slice none 0 0):=ceb hrb
      have r6:w3.cell? ⟨w.heap.size,6,none⟩=some (.slice none 0 0):=ceb hrb
      have f0:w3.frozen? ⟨w.heap.size,0,none⟩=false:=frb hrb
      have f1:w3.frozen? ⟨w.heap.size,1,none⟩=false:=frb hrb
      have f2:w3.frozen? ⟨w.heap.size,2,none⟩=false:=frb hrb
      have f3:w3.frozen? ⟨w.heap.size,3,none⟩=false:=frb hrb
      have f4:w3.frozen? ⟨w.heap.size,4,none⟩=false:=frb hrb
      have f5:w3.frozen? ⟨w.heap.size,5,none⟩=false:=frb hrb
      have f6:w3.frozen? ⟨w.heap.size,6,none⟩=false:=frb hrb
      have HL:=hide (lf (k:=k) HS.o HO.o hrb 5 0 0 tx LT.o)
      clear hrb
      go_wp2
      refine bodyPost_ret (v:=.agg #[.int .i64 5,.int .i64 0,.int .i64 (0:Nat),.string (strN tx),.slice none 0 0,.slice none 0 0,.slice none 0 0]) ?_ rfl ?_
      ·exact results_cell_row Tryz.results192 _ _ w.heap.size 67 _ _ _ rfl HL.o.1 Tryz.underlying67 rfl (by kernel_rfl)
      exact SRes.some_ (by first | exact HF.o | rfl) HL.o.2.1 HL.o.2.2.1 HL.o.2.2.2
    |none =>
     rw[ht]at HM HR
     simp only[]at HR
     clear ht
     go_wp2_with fail
     refine HM.o.mono ?_
     rintro e w2 ⟨rfl,h2,k2⟩
     have hrb2:w2.heap[w.heap.size]?=some (.cells zero7 67 (0,0)):=by rw[k2.block _ (lt_of_block hrb) (by have:=LT.o;omega)];exact hrb
     have HO2:=hide (HO.o.trans k2)
     clear HS HO hrb HM k2
     have HS:=hide (show Sc B bs ao cap data x2 x3 x4 w2 (Fo.skip r)from h2)
     have HO:=HO2
     have hrb:=hrb2
     clear h2 HO2 hrb2
     have HM:=hide (smo HS.o { data:=#[47] } (by decide) (by decide))
     rw[show bl { data:=#[47] }=[47]from rfl,Fo.skip_skip]at HM
     cases ht:Fo.takes [47] (Fo.skip r)with
     |some t =>
      rw[ht]at HM HR
      simp only[]at HR
      clear ht
      go_wp2_with fail
      refine HM.o.mono ?_
      rintro e w2 ⟨rfl,h2,k2⟩
      have hrb2:w2.heap[w.heap.size]?=some (.cells zero7 67 (0,0)):=by rw[k2.block _ (lt_of_block hrb) (by have:=LT.o;omega)];exact hrb
      have HO2:=hide (HO.o.trans k2)
      clear HS HO hrb HM k2
      have HS:=hide (show Sc B bs ao cap data x2 x3 x4 w2 t from h2)
      have HO:=HO2
      have hrb:=hrb2
      clear h2 HO2 hrb2
      have HV:=hide (so1 HS.o)
      cases hX:Fo.name t with
      |none =>
       rw[hX]at HV HR
       have HF:Hid (R=none):=HR.o.symm
       clear hX HR
       go_wp2_with fail
       refine HV.o.mono ?_
       rintro e w3 ⟨rfl,k3⟩
       exact⟨rfl,SRes.none_ (by first | exact HF.o | rfl) (HO.o.trans k3)⟩
      |some x =>
       obtain⟨tx,q2⟩:=x
       rw[hX]at HV HR
       have HF:Hid (R=some (leafN (VT k) 4 0 0 tx,q2)):=HR.o.symm
       clear hX HR
       go_wp2_with fail
       refine HV.o.mono ?_
       rintro e w3 ⟨v,rfl,rfl,h3,k3⟩
       have hrb3:w3.heap[w.heap.size]?=some (.cells zero7 67 (0,0)):=by rw[k3.block _ (lt_of_block hrb) (by have:=LT.o;omega)];exact hrb
       have HO3:=hide (HO.o.trans k3)
       clear HS HO hrb HV k3
       have HS:=hide h3
       have HO:=HO3
       have hrb:=hrb3
       clear h3 HO3 hrb3
       have r0:w3.cell? ⟨w.heap.size,0,none⟩=some (.int .i64 0):=ceb hrb
       have r1:w3.cell? ⟨w.heap.size,1,none⟩=some (.int .i64 0):=ceb hrb
       have r2:w3.cell? ⟨w.heap.size,2,none⟩=some (.int .i64 0):=ceb hrb
       have r3:w3.cell? ⟨w.heap.size,3,none⟩=some (.string { data:=#[] }):=ceb hrb
       have r4:w3.cell? ⟨w.heap.size,4,none⟩=some (.slice none 0 0):=ceb hrb
       have r5:w3.cell? ⟨w.heap.size,5,none⟩=some (.slice none 0 0):=ceb hrb
       have r6:w3.cell? ⟨w.heap.size,6,none⟩=some (.slice none 0 0):=ceb hrb
       have f0:w3.frozen? ⟨w.heap.size,0,none⟩=false:=frb hrb
       have f1:w3.frozen? ⟨w.heap.size,1,none⟩=false:=frb hrb
       have f2:w3.frozen? ⟨w.heap.size,2,none⟩=false:=frb hrb
       have f3:w3.frozen? ⟨w.heap.size,3,none⟩=false:=frb hrb
       have f4:w3.frozen? ⟨w.heap.size,4,none⟩=false:=frb hrb
       have f5:w3.frozen? ⟨w.heap.size,5,none⟩=false:=frb hrb
       have f6:w3.frozen? ⟨w.heap.size,6,none⟩=false:=frb hrb
       have HL:=hide (lf (k:=k) HS.o HO.o hrb 4 0 0 tx LT.o)
       clear hrb
       go_wp2
       refine bodyPost_ret (v:=.agg #[.int .i64 4,.int .i64 0,.int .i64 (0:Nat),.string (strN tx),.slice none 0 0,.slice none 0 0,.slice none 0 0]) ?_ rfl ?_
       ·exact results_cell_row Tryz.results192 _ _ w.heap.size 67 _ _ _ rfl HL.o.1 Tryz.underlying67 rfl (by kernel_rfl)
       exact SRes.some_ (by first | exact HF.o | rfl) HL.o.2.1 HL.o.2.2.1 HL.o.2.2.2
     |none =>
      rw[ht]at HM HR
      simp only[]at HR
      clear ht
      go_wp2_with fail
      refine HM.o.mono ?_
      rintro e w2 ⟨rfl,h2,k2⟩
      have hrb2:w2.heap[w.heap.size]?=some (.cells zero7 67 (0,0)):=by rw[k2.block _ (lt_of_block hrb) (by have:=LT.o;omega)];exact hrb
      have HO2:=hide (HO.o.trans k2)
      clear HS HO hrb HM k2
      have HS:=hide (show Sc B bs ao cap data x2 x3 x4 w2 (Fo.skip r)from h2)
      have HO:=HO2
      have hrb:=hrb2
      clear h2 HO2 hrb2
      have HV:Hid (Calls Tryz.prog 256 #[.pointer (some ⟨bs,0,none⟩)] w2 (VRes B bs ao cap data x2 x3 x4 (k+1) R w2)):=by
       unfold Hid
       rw[←HR.o,←Fo.worded_skip]
       exact so_1 (k:=k) (HE.o.only HS.o.hb hBw HO.o) HS.o
      clear HR
      cases R with
      |none =>
       have HF:Hid ((none:Option (VT (k+1) × List Nat))=none):=rfl
       go_wp2_with fail
       refine HV.o.mono ?_
       rintro e w3 ⟨rfl,k3⟩
       exact⟨rfl,SRes.none_ (by first | exact HF.o | rfl) (HO.o.trans k3)⟩
      |some x =>
       obtain⟨V,q2⟩:=x
       have HF:Hid ((some (V,q2):Option (VT (k+1) × List Nat))=some (V,q2)):=rfl
       go_wp2_with fail
       refine HV.o.mono ?_
       rintro e w3 ⟨v,rfl,hv,h3,k3⟩
       have hrb3:w3.heap[w.heap.size]?=some (.cells zero7 67 (0,0)):=by rw[k3.block _ (lt_of_block hrb) (by have:=LT.o;omega)];exact hrb
       have HN:=hide (nof h3 (HO.o.trans k3) hrb3 LT.o (VIn.mono (k+1) hv (fun g h _=>by have h1:_≤g:=h;have:=lt_of_block hrb;exact⟨by omega,by omega⟩)))
       obtain⟨kd,nn,pp,TT,ia,il,ic,ka,kl,kc,fa,fl,fc,rfl⟩:=VIn.form hv
       clear hrb HS HO HV hv h3 k3
       have hrb:=hrb3
       have r0:w3.cell? ⟨w.heap.size,0,none⟩=some (.int .i64 0):=ceb hrb
       have r1:w3.cell? ⟨w.heap.size,1,none⟩=some (.int .i64 0):=ceb hrb
       have r2:w3.cell? ⟨w.heap.size,2,none⟩=some (.int .i64 0):=ceb hrb
       have r3:w3.cell? ⟨w.heap.size,3,none⟩=some (.string { data:=#[] }):=ceb hrb
       have r4:w3.cell? ⟨w.heap.size,4,none⟩=some (.slice none 0 0):=ceb hrb
       have r5:w3.cell? ⟨w.heap.size,5,none⟩=some (.slice none 0 0):=ceb hrb
       have r6:w3.cell? ⟨w.heap.size,6,none⟩=some (.slice none 0 0):=ceb hrb
       have f0:w3.frozen? ⟨w.heap.size,0,none⟩=false:=frb hrb
       have f1:w3.frozen? ⟨w.heap.size,1,none⟩=false:=frb hrb
       have f2:w3.frozen? ⟨w.heap.size,2,none⟩=false:=frb hrb
       have f3:w3.frozen? ⟨w.heap.size,3,none⟩=false:=frb hrb
       have f4:w3.frozen? ⟨w.heap.size,4,none⟩=false:=frb hrb
       have f5:w3.frozen? ⟨w.heap.size,5,none⟩=false:=frb hrb
       have f6:w3.frozen? ⟨w.heap.size,6,none⟩=false:=frb hrb
       have HL:=hide (HN.o _ _ _ _ _ _ _ rfl)
       clear hrb hrb3 HN
       go_wp2
       refine bodyPost_ret (v:=.agg #[.int .i64 kd,.int .i64 nn,.int .i64 pp,.string TT,.slice ia il ic,.slice ka kl kc,.slice fa fl fc]) ?_ rfl ?_
       ·exact results_cell_row Tryz.results192 _ _ w.heap.size 67 _ _ _ rfl HL.o.1 Tryz.underlying67 rfl (by kernel_rfl)
       exact SRes.some_ (by first | exact HF.o | rfl) HL.o.2.1 HL.o.2.2.1 HL.o.2.2.2
theorem svo:∀ k,k≤12→VO B bs ao cap data x2 x3 x4 k
 |0,_=>svz
 |k+1,h=>svs (by omega) (svo k (by omega))
end
namespace Fo
def pickZ{β:Type}(s:ByteArray)(z:List (List Nat × β)):List β:=(z.filter fun x=>decide (strN x.1=s)).map Prod.snd
def pick{β:Type}(s:ByteArray)(ks:List (List Nat))(l:List β):List β:=pickZ s (ks.zip l)
theorem pickZ_succ{β:Type}(s:ByteArray)(z:List (List Nat × β))(i:Nat)(k:List Nat)(x:β)(h:z[i]?=some (k,x)) :
  pickZ s (z.take (i+1))=pickZ s (z.take i)++(if strN k=s then[x]else[]):=by
 unfold pickZ
 rw[List.take_add_one,h,List.filter_append,List.map_append]
 by_cases hk:strN k=s
 ·simp[hk]
 ·simp[hk]
theorem pickZ_len{β:Type}(s:ByteArray)(z:List (List Nat × β)):(pickZ s z).length≤z.length:=by
 unfold pickZ
 rw[List.length_map]
 exact List.length_filter_le _ _
theorem pick_both{β γ:Type}{R:β→γ→Prop}(s:ByteArray):∀(ks:List (List Nat)) (l:List β) (m:List γ),l.length=m.length→(∀(i:Nat) (x:β) (y:γ),l[i]?=some x→m[i]?=some y→R x y) →
  (pick s ks l).length=(pick s ks m).length∧∀(i:Nat) (x:β) (y:γ),(pick s ks l)[i]?=some x→(pick s ks m)[i]?=some y→R x y
 | [],l,m,_,_=>⟨rfl,fun i x y h=>by simp[pick,pickZ]at h⟩
 |k::ks,[],[],_,_=>⟨rfl,fun i x y h=>by simp[pick,pickZ]at h⟩
 |k::ks,[],y::m,h,_=>by cases h
 |k::ks,x::l,[],h,_=>by cases h
 |k::ks,x::l,y::m,h,hr=>by
  have ih:=pick_both (R:=R) s ks l m (by simpa using h) (fun i a b ha hb=>hr (i+1) a b (by simpa using ha) (by simpa using hb))
  have e1:∀{δ:Type} (a:δ) (r:List δ),pick s (k::ks) (a::r)=if strN k=s then a::pick s ks r else pick s ks r:=fun a r=>by
   unfold pick pickZ
   rw[List.zip_cons_cons,List.filter_cons]
   by_cases hk:strN k=s<;>simp[hk]
  rw[e1,e1]
  by_cases hk:strN k=s
  ·rw[if_pos hk,if_pos hk]
   refine⟨by simp[ih.1],fun i a b ha hb=>?_⟩
   cases i with
   |zero =>
    simp at ha hb
    subst ha;subst hb
    exact hr 0 _ _ rfl rfl
   |succ i=>exact ih.2 i a b (by simpa using ha) (by simpa using hb)
  ·rw[if_neg hk,if_neg hk];exact ih
end Fo
structure It(w0:World)(b:Array Value)(w:World)(v:Value)(xs:List Value):Prop where
 below:Below w0.heap.size w0 w
 box:w.heap[w0.heap.size]?=some (.cells b 67 (0,0))
 own:w.ownsRow (w0.heap.size+1) 67 7 v xs.length (xs.flatMap cellsOf)
theorem It.alloc{w0 w:World}{b:Array Value}{v:Value}{xs:List Value}(h:It w0 b w v xs)(o:Obj):It w0 b (w.alloc o) v xs:=
 ⟨h.below.alloc h.below.size o,bla _ h.box,h.own.alloc _⟩
theorem It.grow{w0 w w':World}{b:Array Value}{v v' x:Value}{xs:List Value}(h:It w0 b w v xs){o1 o2:Obj}{n:Nat}{news:List Value}(hown:w'.ownsRow (w0.heap.size+1) 67 7 v' n (xs.flatMap cellsOf++news))(hg:((w.alloc o1).alloc o2).grownBy w' v.ownBlock)(hn:n=xs.length+1:=by rfl)(hx:news=cellsOf x:=by rfl) :
  It w0 b w' v' (xs++[x]):=by
 subst hn;subst hx
 have h2:=(h.alloc o1).alloc o2
 have hb:∀ g,g<w0.heap.size+1→w'.heap[g]?=((w.alloc o1).alloc o2).heap[g]?:=fun g hg2=>hg.block g (by have:=lt_of_block h2.box;omega) (fun e=>by have:=(h2.own.lt g e.symm).1;omega)
 refine⟨⟨hg.os.trans h2.below.os,hg.tape.trans h2.below.tape,hg.output.trans h2.below.output,Nat.le_trans h2.below.size hg.size,fun g hg2=>(hb g (by omega)).trans (h2.below.block g hg2)⟩,by rw[hb _ (by omega)];exact h2.box,?_⟩
 rw[List.length_append,List.flatMap_append]
 simpa using hown
theorem itOo{P:Nat→Prop}{k:Nat}{w:World}{v:Value}{V:Node (VT k)}(h:VIn P (k+1) w v V)(hl:V.keys.length=V.items.length)(hfew:V.items.length≤200000)(s:ByteArray) :
  Calls Tryz.prog 260 #[v,.string s] w fun e w'=>∃ iv,e=.returned iv∧Vals (fun g=>P g∧g<w.heap.size) k (w.heap.size+1) (Fo.pick s V.keys V.items) w' iv∧Below w.heap.size w w':=by
 obtain⟨i0,hi,hz0,hz1,hz2⟩:=info_parts iV
 obtain⟨iv,kv,fv,vs,hv,hvl,hiv,hvs,hkv,hfv⟩:=h.parts
 obtain⟨ia,ic,rfl⟩:=ows hiv.1
 obtain⟨ka,kc,rfl⟩:=ows hkv.1
 obtain⟨fa,fc,rfl⟩:=ows hfv.1
 have HI:=hide hiv
 have HK:=hide hkv
 have HV:=hide hvs
 clear h hfv hiv hkv hvs
 obtain⟨n,hn⟩:∃ n,vs.length=n:=⟨_,rfl⟩
 have hkn:V.keys.length=n:=by omega
 have hn2:n≤200000:=by omega
 rw[hkn,hn]at hv
 unfold nV at hv
 generalize (V.kind:Int)=kd at hv
 generalize V.n=nn at hv
 generalize (V.places:Int)=pp at hv
 generalize strN V.text=tt at hv
 subst hv
 have HN:=hide (And.intro hn (And.intro hkn (And.intro hl hvl)))
 clear hl hfew hvl hn hkn
 obtain⟨b,hb⟩:∃ b:Array Value,#[.int .i64 kd,.int .i64 nn,.int .i64 pp,.string tt,.slice ia n ic,.slice ka n kc,.slice fa V.filters.length fc]=b:=⟨_,rfl⟩
 have HB:=hide hb
 clear hb
 go_enter Tryz.func260,Tryz.ntmps260
 go_wp2
 go_loopw [5,11] (fun l i wr=>∃(m:Nat),m≤n∧i=.int .i64 m∧Hid (It w b wr l (Fo.pickZ s ((V.keys.zip vs).take m)))) (fun _ i _=>n-(intOf i).toNat)
 case atStart =>
  refine⟨0,Nat.zero_le _,rfl,⟨(Below.refl _ _).alloc (Nat.le_refl _) _,?_,World.ownsRow_nil _ _ _ _⟩⟩
  rw[bln,←HB.o]
 case round =>
  obtain⟨m,hm,rfl,HT⟩:=hrel
  rcases Nat.eq_or_lt_of_le hm with hm | hm
  ·subst hm
   go_wp2
   go_ret
   have e1:(V.keys.zip vs).take m=V.keys.zip vs:=List.take_of_length_le (by rw[List.length_zip];have:=HN.o;omega)
   have hT:=HT.o
   rw[e1]at hT
   obtain⟨p1,p2⟩:=Fo.pick_both (R:=fun x y=>VIn P k w x y) s V.keys vs V.items (by have:=HN.o;omega) HV.o
   exact⟨_,rfl,⟨_,hT.own,p1,fun i x y hx hy=>VIn.keep k (VIn.mono k (p2 i x y hx hy) (fun g h1 h2=>⟨h1,h2⟩)) (fun g _ hg=>hT.below.block g hg)⟩,hT.below⟩
  ·obtain⟨x,hx⟩:∃ x,vs[m]?=some x:=⟨_,List.getElem?_eq_getElem (by have:=HN.o;omega)⟩
   obtain⟨y,hy⟩:∃ y,V.items[m]?=some y:=⟨_,List.getElem?_eq_getElem (by have:=HN.o;omega)⟩
   obtain⟨key,hkey⟩:∃ key,V.keys[m]?=some key:=⟨_,List.getElem?_eq_getElem (by have:=HN.o;omega)⟩
   have hall:∀ x∈vs,(cellsOf x).length=7:=fun x hx=>by
    obtain⟨i,hi2,hix⟩:=List.getElem_of_mem hx
    obtain⟨y,hy⟩:∃ y,V.items[i]?=some y:=⟨_,List.getElem?_eq_getElem (by have:=HN.o;omega)⟩
    exact(HV.o i x y (by rw[List.getElem?_eq_getElem hi2,hix]) hy).cells.1
   obtain⟨g,c,hge,hnc,hcm,hgb,hgc⟩:=rop HI.o.1 hall (by decide) hx
   cases hge
   obtain⟨g2,c2,hge2,hgc2⟩:=ro HK.o.1 (show(V.keys.map fun s=>Value.string (strN s))[m]?=some (.string (strN key))by rw[List.getElem?_map,hkey];rfl)
   cases hge2
   have HVX:=hide (HV.o m x y hx hy).cells
   obtain⟨k0,k1,k2,k3,ja,jl,jc,ka2,kl,kc2,fa2,fl,fc2,hxf⟩:=VIn.form (HV.o m x y hx hy)
   have hold:∀{a:Addr} {u:Value},w.cell? a=some u→wr.cell? a=some u:=fun{a u} h=>by
    rw[HT.o.below.cell (World.block_lt_of_cell? w a h)];exact h
   have HZ:=hide (Fo.pickZ_succ s (V.keys.zip vs) m key x (by rw[List.getElem?_zip_eq_some];exact⟨hkey,hx⟩))
   have HLZ:=hide (show(Fo.pickZ s ((V.keys.zip vs).take m)).length≤n from Nat.le_trans (Fo.pickZ_len _ _) (by rw[List.length_take];omega))
   have d0:wr.cell? ⟨g,m*7,none⟩=some (.int .i64 k0):=hold (hgc 0 _ (by rw[hxf];rfl))
   have d1:wr.cell? ⟨g,m*7+1,none⟩=some (.int .i64 k1):=hold (hgc 1 _ (by rw[hxf];rfl))
   have d2:wr.cell? ⟨g,m*7+2,none⟩=some (.int .i64 k2):=hold (hgc 2 _ (by rw[hxf];rfl))
   have d3:wr.cell? ⟨g,m*7+3,none⟩=some (.string k3):=hold (hgc 3 _ (by rw[hxf];rfl))
   have d4:wr.cell? ⟨g,m*7+4,none⟩=some (.slice ja jl jc):=hold (hgc 4 _ (by rw[hxf];rfl))
   have d5:wr.cell? ⟨g,m*7+5,none⟩=some (.slice ka2 kl kc2):=hold (hgc 5 _ (by rw[hxf];rfl))
   have d6:wr.cell? ⟨g,m*7+6,none⟩=some (.slice fa2 fl fc2):=hold (hgc 6 _ (by rw[hxf];rfl))
   have dk:∀ o:Obj,(wr.alloc o).cell? ⟨g2,m,none⟩=some (.string (strN key)):=fun o=>by
    rw[World.cell?_alloc_lt _ _ _ (World.block_lt_of_cell? wr _ (hold hgc2))];exact hold hgc2
   have db:∀ o:Obj,(wr.alloc o).cell? ⟨w.heap.size,5,none⟩=some (.slice (some ⟨g2,0,none⟩) n kc):=fun o=>by
    rw[World.cell?_alloc_lt _ _ _ (lt_of_block HT.o.box),ceb HT.o.box,←HB.o];rfl
   have HIT:=HT
   subst hxf
   clear hold hgc hgc2 hx hy hkey hall hgb HV HI HK HT hnc hcm
   have hwr:w.heap.size+1≤wr.heap.size:=lt_of_block HIT.o.box
   by_cases hke:strN key=s
   ·have hc:(((strN key).toList==s.toList))=true:=by rw[strEq,decide_eq_true_eq];exact hke
    have HZ2:=hide (HZ.o.trans (by rw[if_pos hke]))
    clear HZ hke
    generalize strN key=S at *
    generalize hpk:Fo.pickZ s ((V.keys.zip vs).take m)=xs at *
    clear hpk
    go_wp2_with (at_builtin;refine wpList_append_own _ rfl (.tmp 23) (.tmp 25) 29 rfl (w.heap.size+1) 67 i0 _ 7 112 Tryz.underlying29 hi hz0 hz1 hz2 rfl (by decide) _ xs.length (xs.flatMap cellsOf) rfl ((HIT.o.own.alloc _).alloc _) ⟨wr.heap.size+1,0,none⟩ 1 1 [.int .i64 k0,.int .i64 k1,.int .i64 k2,.string k3,.slice ja jl jc,.slice ka2 kl kc2,.slice fa2 fl fc2] rfl rfl ?hnews ?hone ?h63 ?hby ?hbs ?_)
    case hnews =>
     intro j u hu
     have:=bln (wr.alloc (.cells #[.int .i64 k0,.int .i64 k1,.int .i64 k2,.string k3,.slice ja jl jc,.slice ka2 kl kc2,.slice fa2 fl fc2] 67)) (.cells #[.int .i64 k0,.int .i64 k1,.int .i64 k2,.string k3,.slice ja jl jc,.slice ka2 kl kc2,.slice fa2 fl fc2] 67)
     rw[World.size_alloc]at this
     rw[aa,ceb this]
     simpa using hu
    case hone=>exact HVX.o.2
    case h63=>unfold maxLen;have:=HLZ.o;omega
    case hby=>have:=HLZ.o;omega
    case hbs=>simp;omega
    intro v6 w6 own6 hg6 _
    have H6:=hide (HIT.o.grow (x:=.agg #[.int .i64 k0,.int .i64 k1,.int .i64 k2,.string k3,.slice ja jl jc,.slice ka2 kl kc2,.slice fa2 fl fc2]) own6 hg6)
    have hd6:IntKind.i64.wrap ((m:Int)+1)=((m+1:Nat):Int):=by rw[IntKind.wrap_i64];omega
    clear own6 hg6 dk db d0 d1 d2 d3 d4 d5 d6
    go_wp2
    go_roundw
    case rel=>exact⟨m+1,by omega,by first | rfl | (congr 1),by rw[HZ2.o];exact H6.o⟩
    case measure=>simp[intOf];omega
   ·have hc:(((strN key).toList==s.toList))=false:=by rw[strEq,decide_eq_false_iff_not];exact hke
    have HZ2:=hide (HZ.o.trans (by rw[if_neg hke,List.append_nil]))
    clear HZ hke
    generalize strN key=S at *
    have H6:=hide (HIT.o.alloc)
    go_wp2
    go_roundw
    case rel=>exact⟨m+1,by omega,by first | rfl | (congr 1),by rw[HZ2.o];exact H6.o _⟩
    case measure=>simp[intOf];omega
end Go.Proofs.YtgkljcmjnphpeaaGreatDoor
