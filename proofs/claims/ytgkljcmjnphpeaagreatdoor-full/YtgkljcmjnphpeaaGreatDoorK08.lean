import Derived.Test.YtgkljcmjnphpeaaGreatDoorK07
set_option linter.unusedVariables false
set_option linter.unusedSimpArgs false
set_option maxHeartbeats 4000000
set_option maxRecDepth 100000
namespace Go.Proofs.YtgkljcmjnphpeaaGreatDoor
open Go.RowKit
section
variable{w0:World}{B bs cap K k:Nat}{ao:Option Addr}{data:List Nat}{x2 x3 x4:Value}{w w':World}{q r:List Nat}{iv kv:Value}{vs:List Value}{Vs:List (VT k)}{ks:List (List Nat)}
theorem Ar.key(h:Ar w0 B bs ao cap data x2 x3 x4 K k w q iv vs Vs kv ks){s:List Nat}{kv':Value}
  (hown:w'.ownsRow (w0.heap.size+2) 9 1 kv' (ks.length+1) ((ks.map fun s=>.string (strN s))++[.string (strN s)])) (hg:w.grownBy w' kv.ownBlock) (hw:∀ g,kv'.ownBlock=some g→kv.ownBlock=some g∨w.heap.size≤g) (hfew:ks.length+1+q.length≤200000) :
  Ar w0 B bs ao cap data x2 x3 x4 K k (w'.setCell ⟨w0.heap.size+1,5,none⟩ kv') q iv vs Vs kv' (ks++[s]):=by
 have hlt:=h.lt
 have hsz:=h.only.size
 have hvb:=lt_of_block h.vb
 have hBb:=h.sc.hb
 have hiv:∀ g,iv.ownBlock=some g→w0.heap.size+2≤g∧g<w.heap.size:=h.own.lt
 have hkv:∀ g,kv.ownBlock=some g→w0.heap.size+2≤g∧g<w.heap.size:=h.ownk.lt
 have hoth:∀ g,g<w.heap.size→kv.ownBlock≠some g→g≠w0.heap.size+1→(w'.setCell ⟨w0.heap.size+1,5,none⟩ kv').heap[g]?=w.heap[g]?:=fun g h1 h2 h3=>by
  rw[bsCn _ h3,hg.block g h1 (fun e=>h2 e.symm)]
 have hlow:∀ g,g<w0.heap.size+1→(w'.setCell ⟨w0.heap.size+1,5,none⟩ kv').heap[g]?=w.heap[g]?:=fun g h1=>hoth g (by omega) (fun e=>by have:=hkv g e;omega) (by omega)
 have hvb':w'.heap[w0.heap.size+1]?=some (.cells #[.int .i64 (K:Int),.int .i64 0,.int .i64 0,.string { data:=#[] },iv,kv,.slice none 0 0] 67 (0,0)):=by
  rw[hg.block _ hvb (fun e=>by have:=hkv _ e.symm;omega)];exact h.vb
 refine⟨⟨h.sc.hb,by rw[hlow _ (by omega)];exact h.sc.blk,h.sc.dat.other (fun g hg=>hlow g (by omega)),h.sc.byt,h.sc.len,h.sc.lc,h.sc.le,h.sc.suf,h.sc.ad⟩,?_,h.lt,by rw[hlow _ (by omega)];exact h.rb,?_,?_,?_,h.len,?_,h.few,by rw[List.length_append];exact hfew⟩
 ·exact⟨hg.os.trans h.only.os,hg.tape.trans h.only.tape,hg.output.trans h.only.output,by have:=hg.size;simp[World.setCell];omega,fun g h1 h2=>(hlow g (by omega)).trans (h.only.block g h1 h2)⟩
 ·rw[bsC _ hvb'];rfl
 ·have:=h.own.kept hg (by
   cases hk:iv.ownBlock with
   |none=>exact Or.inl rfl
   |some g =>
    refine Or.inr (fun e=>?_)
    exact oa_ h.own h.ownk (by decide) g hk e.symm)
  exact ownsRow_setCell_other this (fun e=>absurd (this.lt (w0.heap.size+1) e).1 (by omega)) kv'
 ·rw[List.length_append,List.map_append]
  have:=ownsRow_setCell_other (a:=⟨w0.heap.size+1,5,none⟩) hown (fun e=>absurd (hown.lt (w0.heap.size+1) e).1 (by omega)) kv'
  simpa using this
 ·intro i x y hx hy
  have old:VIn (fun g=>w0.heap.size+2≤g∧iv.ownBlock≠some g∧kv.ownBlock≠some g∧kv'.ownBlock≠some g) k w x y:=by
   refine VIn.mono k (h.ch i x y hx hy) (fun g h1 h2=>⟨h1.1,h1.2.1,h1.2.2,fun e=>?_⟩)
   rcases hw g e with c2 | c2
   ·exact h1.2.2 c2
   ·omega
  refine VIn.mono k (VIn.keep k old (fun g h1 h2=>hoth g h2 h1.2.2.1 (by omega))) (fun g h1 _=>⟨h1.1,h1.2.1,h1.2.2.2⟩)
def SCell(fl b off:Nat)(v:Value)(L:Array Bool)(W:World):Prop:=L.getD fl false=false→W.cell? ⟨b,off,none⟩=some v
theorem SCell.set{fl b off i:Nat}{v:Value}{L:Array Bool}{W:World}(hi:i≠fl):SCell fl b off v L W↔SCell fl b off v (L.setIfInBounds i true) W:=by
 unfold SCell
 rw[getD_set_ne false hi]
def addD{α:Type}(ks:List (List Nat))(Vs:List α)(o:Option ((List (List Nat) × List α) × List Nat)):Option ((List (List Nat) × List α) × List Nat):=o.map fun x=>((ks++x.1.1,Vs++x.1.2),x.2)
theorem aDc{α:Type}(ks:List (List Nat))(Vs:List α)(s:List Nat)(V:α)(o:Option ((List (List Nat) × List α) × List Nat)):addD ks Vs (o.map fun x=>((s::x.1.1,V::x.1.2),x.2))=addD (ks++[s]) (Vs++[V]) o:=by
 cases o with
 |none=>rfl
 |some x=>simp[addD]
theorem sdo(hk:k≤11)(ih:VO B bs ao cap data x2 x3 x4 k)(he:ErrW B w)(h:Sc B bs ao cap data x2 x3 x4 w r) :
  Calls Tryz.prog 197 #[.pointer (some ⟨bs,0,none⟩),.int .i64 (12-k:Nat)] w (VRes B bs ao cap data x2 x3 x4 (k+1) ((Fo.dic (Fo.value k) (r.length+1) r).map fun x=>((⟨7,0,0,[],x.1.2,x.1.1,[]⟩:Node (VT k)),x.2)) w):=by
 obtain⟨i0,hi,hz0,hz1,hz2⟩:=info_parts iV
 obtain⟨j0,ji,jz0,jz1,jz2⟩:=info_parts iS
 have IH:=hide ih
 have HE:=hide he
 have H:=hide h
 clear ih he h
 obtain⟨R,hR⟩:∃ R,Fo.dic (Fo.value k) (r.length+1) r=R:=⟨_,rfl⟩
 rw[hR]
 have HR:Hid (addD [] [] (Fo.dic (Fo.value k) (r.length+1) r)=R):=by
  unfold Hid
  rw[←hR];unfold addD
  cases Fo.dic (Fo.value k) (r.length+1) r<;>simp
 clear hR
 go_enter Tryz.func197,Tryz.ntmps197
 go_wp2
 go_loopw [7] (fun _ wr=>∃(m:Nat) (q:List Nat) (iv:Value) (vs:List Value) (Vs:List (VT k)) (kv:Value) (ks:List (List Nat)),Hid (Ar w B bs ao cap data x2 x3 x4 7 k wr q iv vs Vs kv ks)∧q.length<m∧Hid (addD ks Vs (Fo.dic (Fo.value k) m q)=R)) (fun _ wr=>data.length-posS bs wr)
 case atStart=>exact⟨r.length+1,r,.slice none 0 0,[],[],.slice none 0 0,[],Ar.start H.o,by omega,HR⟩
 clear H HR
 case round =>
  obtain⟨m,q,iv,vs,Vs,kv,ks,HA,hm,HR⟩:=hrel
  obtain⟨m,rfl⟩:∃ m',m=m'+1:=⟨m-1,by omega⟩
  have HPQ:=hide HA.o.sc.posS
  have hqle:=HA.o.sc.le
  have HM:=hide (smo HA.o.sc { data:=#[62,62] } (by decide) (by decide))
  rw[show bl { data:=#[62,62] }=[62,62]from rfl]at HM
  have hsl:=Fo.skip_len q
  cases ht:Fo.takes [62,62] (Fo.skip q)with
  |some q1 =>
   rw[ht]at HM
   have hq1:=(Fo.takes_len ht).1
   simp only[List.length_cons,List.length_nil]at hq1
   have HRE:Hid (R=some ((ks,Vs),q1)):=by unfold Hid;rw[←HR.o,Fo.dic,ht];simp[addD]
   clear ht HR
   go_wp2_with fail
   refine HM.o.mono ?_
   rintro e w1 ⟨rfl,h1,k1⟩
   have H1:=hide (HA.o.step (show Sc B bs ao cap data x2 x3 x4 w1 q1 from h1) k1 (by omega))
   obtain⟨ia,ic,hivs⟩:=ows H1.o.own
   obtain⟨ja,jc,hkvs⟩:=ows H1.o.ownk
   subst hivs
   subst hkvs
   have hrb:=H1.o.rb
   have hvb:=H1.o.vb
   have v0:w1.cell? ⟨w.heap.size+1,0,none⟩=some (.int .i64 7):=ceb hvb
   have v1:w1.cell? ⟨w.heap.size+1,1,none⟩=some (.int .i64 0):=ceb hvb
   have v2:w1.cell? ⟨w.heap.size+1,2,none⟩=some (.int .i64 0):=ceb hvb
   have v3:w1.cell? ⟨w.heap.size+1,3,none⟩=some (.string { data:=#[] }):=ceb hvb
   have v4:w1.cell? ⟨w.heap.size+1,4,none⟩=some (.slice ia vs.length ic):=ceb hvb
   have v5:w1.cell? ⟨w.heap.size+1,5,none⟩=some (.slice ja ks.length jc):=ceb hvb
   have v6:w1.cell? ⟨w.heap.size+1,6,none⟩=some (.slice none 0 0):=ceb hvb
   have r0:w1.cell? ⟨w.heap.size,0,none⟩=some (.int .i64 0):=ceb hrb
   have r1:w1.cell? ⟨w.heap.size,1,none⟩=some (.int .i64 0):=ceb hrb
   have r2:w1.cell? ⟨w.heap.size,2,none⟩=some (.int .i64 0):=ceb hrb
   have r3:w1.cell? ⟨w.heap.size,3,none⟩=some (.string { data:=#[] }):=ceb hrb
   have r4:w1.cell? ⟨w.heap.size,4,none⟩=some (.slice none 0 0):=ceb hrb
   have r5:w1.cell? ⟨w.heap.size,5,none⟩=some (.slice none 0 0):=ceb hrb
   have r6:w1.cell? ⟨w.heap.size,6,none⟩=some (.slice none 0 0):=ceb hrb
   have f0:w1.frozen? ⟨w.heap.size,0,none⟩=false:=frb hrb
   have f1:w1.frozen? ⟨w.heap.size,1,none⟩=false:=frb hrb
   have f2:w1.frozen? ⟨w.heap.size,2,none⟩=false:=frb hrb
   have f3:w1.frozen? ⟨w.heap.size,3,none⟩=false:=frb hrb
   have f4:w1.frozen? ⟨w.heap.size,4,none⟩=false:=frb hrb
   have f5:w1.frozen? ⟨w.heap.size,5,none⟩=false:=frb hrb
   have f6:w1.frozen? ⟨w.heap.size,6,none⟩=false:=frb hrb
   have HF:=hide (set7 hrb (.int .i64 7) (.int .i64 0) (.int .i64 0) (.string { data:=#[] }) (.slice ia vs.length ic) (.slice ja ks.length jc) (.slice none 0 0))
   have HO:=hide (only7 w1 w.heap.size (.int .i64 7) (.int .i64 0) (.int .i64 0) (.string { data:=#[] }) (.slice ia vs.length ic) (.slice ja ks.length jc) (.slice none 0 0))
   clear h1 k1 HM hrb hvb
   go_wp2
   refine bodyPost_ret (v:=.agg #[.int .i64 7,.int .i64 0,.int .i64 0,.string { data:=#[] },.slice ia vs.length ic,.slice ja ks.length jc,.slice none 0 0]) ?_ rfl ?_
   ·exact results_cell_row Tryz.results197 _ _ w.heap.size 67 _ _ _ rfl HF.o Tryz.underlying67 rfl (by kernel_rfl)
   obtain⟨a1,a2,a3⟩:=H1.o.fin HO.o
   exact SRes.some_ (by rw[HRE.o];rfl) a1 a2 a3
  |none =>
   rw[ht]at HM
   go_wp2_with fail
   refine HM.o.mono ?_
   rintro e w1 ⟨rfl,h1,k1⟩
   have H1:=hide (HA.o.step (show Sc B bs ao cap data x2 x3 x4 w1 (Fo.skip q)from h1) k1 hsl)
   clear h1 k1 HM
   have HM2:=hide (smo H1.o.sc { data:=#[47] } (by decide) (by decide))
   rw[bo,show(UInt8.toNat 47)=47 from rfl,Fo.skip_skip]at HM2
   cases h47:Fo.takes [47] (Fo.skip q)with
   |none =>
    rw[h47]at HM2
    have HE2:Hid (R=none):=by unfold Hid;rw[←HR.o,Fo.dic,ht,h47];rfl
    clear ht HR h47
    go_wp2_with fail
    refine HM2.o.mono ?_
    rintro e w2 ⟨rfl,h2,k2⟩
    go_wp2_with fail
    refine(sn _).mono ?_
    rintro e w' ⟨rfl,rfl⟩
    exact⟨rfl,SRes.none_ (by rw[HE2.o];rfl) (H1.o.only.trans k2)⟩
   |some q1 =>
    rw[h47]at HM2
    have hq1:=(Fo.takes_len h47).1
    simp only[List.length_cons,List.length_nil]at hq1
    have HR1:Hid (addD ks Vs (match Fo.name q1 with | none=>none | some (s,q2)=>match Fo.value k q2 with | none=>none | some (v,q3)=>(Fo.dic (Fo.value k) m q3).map fun x=>((s::x.1.1,v::x.1.2),x.2))=R):=by
     unfold Hid
     rw[←HR.o]
     simp only[Fo.dic,ht,h47]
     cases Fo.name q1 with
     |none=>rfl
     |some x =>
      obtain⟨s,q2⟩:=x
      simp only[]
      cases Fo.value k q2<;>rfl
    clear ht HR h47
    go_wp2_with fail
    refine HM2.o.mono ?_
    rintro e w2 ⟨rfl,h2,k2⟩
    have H2:=hide (H1.o.step (show Sc B bs ao cap data x2 x3 x4 w2 q1 from h2) k2 (by omega))
    clear h2 k2 HM2 H1
    go_wp2_with fail
    refine(smy _).mono ?_
    rintro e w' ⟨rfl,rfl⟩
    have hvb:=H2.o.vb
    have HCV:Hid (w'.cell? ⟨w.heap.size+1,5,none⟩=some kv):=by unfold Hid;rw[ceb hvb];rfl
    have HN:=hide (so1 H2.o.drew.sc)
    obtain⟨ka,kc,hkv⟩:=ows H2.o.ownk
    clear hvb
    go_wp2_with fail
    refine wrT (SCell 7 (w.heap.size+1) 5 kv) (by kernel_rfl) ?_
    intro hD
    have hS:SCell 7 (w.heap.size+1) 5 kv (Array.replicate 8 false) w'.drew:=fun _=>HCV.o
    refine ti 0 ?_ hD hS ?_
    clear hD hS;intro hD hS;(try simp only[putL])
    refine tk 1 ?_ hD ?_ hS ?_
    rotate_left
    ·intro W hW;obtain⟨L,hDs,hL,hSL⟩:=hW;have hcl:=hSL (by cases h9:L.getD 7 false with | false=>rfl | true=>exact absurd (hDs.came 2 7 (by kernel_rfl) h9) (by rw[gDi hL];decide));go_simp;try(with_reducible rfl)
    clear hD hS;intro hD hS;(try simp only[putL])
    refine ti 2 ?_ hD hS ?_
    clear hD hS;intro hD hS;(try simp only[putL])
    cases hnm:Fo.name q1 with
    |none =>
     rw[hnm]at HN HR1
     have HE2:Hid (R=none):=by unfold Hid;rw[←HR1.o];rfl
     clear hnm HR1
     refine on 3 hD fun K' hK=>?_
     go_simp
     refine HN.o.mono ?_
     rintro e w3 ⟨rfl,k3⟩
     exact⟨rfl,SRes.none_ (by rw[HE2.o];rfl) (H2.o.drew.only.trans k3)⟩
    |some x =>
     obtain⟨s,q2⟩:=x
     rw[hnm]at HN HR1
     have hqn:=Fo.nameS_len q1 0 0 s q2 hnm
     clear hnm
     refine on 3 hD fun K' hK=>?_
     go_simp
     refine HN.o.mono ?_
     rintro e w3 ⟨v,rfl,rfl,h3,k3⟩
     have H3:=hide (H2.o.drew.step h3 k3 hqn)
     have HC3:Hid (w3.cell? ⟨w.heap.size+1,5,none⟩=some kv):=by unfold Hid;rw[ceb H3.o.vb];rfl
     clear h3 k3 HN
     refine hK.o _ _ (fun _=>HC3.o) (fun hD2 hS2=>?_)
     clear hD hS hK K'
     have hD:=hD2
     have hS:=hS2
     clear hD2 hS2
     (try simp only[putL])
     refine on 4 hD fun K' hK=>?_
     go_simp
     have H4:=hide (H3.o.alloc (.cells #[.string (strN s)] 9))
     have HC4:Hid ((w3.alloc (.cells #[.string (strN s)] 9)).cell? ⟨w.heap.size+1,5,none⟩=some kv):=by unfold Hid;rw[ceb H4.o.vb];rfl
     refine hK.o _ _ (fun _=>HC4.o) (fun hD2 hS2=>?_)
     clear hD hS hK K'
     have hD:=hD2
     have hS:=hS2
     clear hD2 hS2
     (try simp only[putL])
     refine on 5 hD fun K' hK=>?_
     have hfewk:=HA.o.fewk
     have hvl:=lt_of_block H3.o.vb
     refine saw rfl (.tmp 14) (.tmp 17) 38 rfl (w.heap.size+2) 9 j0 _ 1 16 Tryz.underlying38 ji jz0 jz1 jz2 rfl (by decide) kv ks.length (ks.map fun s=>.string (strN s)) (by rw[hkv];rfl) H4.o.ownk ⟨w3.heap.size,0,none⟩ 1 1 [.string (strN s)] rfl rfl ?hnews ?hone ?h63 ?hby ?hbs ?_
     case hnews =>
      intro j u hu
      rw[aa,ceb (bln w3 _)]
      simpa using hu
     case hone=>intro u hu;simp at hu;subst hu;rfl
     case h63=>unfold maxLen;omega
     case hby=>omega
     case hbs=>simp;omega
     intro v6 w6 own6 hg6 hw6
     have H6:=hide (H4.o.key own6 hg6 hw6 (by omega))
     have hv6:w6.heap[w.heap.size+1]?=some (.cells #[.int .i64 7,.int .i64 0,.int .i64 0,.string { data:=#[] },iv,kv,.slice none 0 0] 67 (0,0)):=by
      rw[hg6.block _ (lt_of_block H4.o.vb) (fun e=>by have:=(H4.o.ownk.lt _ e.symm).1;omega)];exact H4.o.vb
     have hc6:w6.cell? ⟨w.heap.size+1,5,none⟩=some kv:=ceb hv6
     have hf6:w6.frozen? ⟨w.heap.size+1,5,none⟩=false:=frb hv6
     obtain⟨ao6,c6,hv6s⟩:=ows own6
     subst hv6s
     clear own6 hg6 hw6 hv6 H4 HC4 HC3 H3 H2 HCV
     refine hK.o _ _ (fun _=>hc6) (fun hD2 hS2=>?_)
     clear hD hS hK K'
     have hD:=hD2
     have hS:=hS2
     clear hD2 hS2
     (try simp only[putL])
     refine on 6 hD fun K' hK=>?_
     go_simp
     refine hK.o _ _ (fun _=>hc6) (fun hD2 hS2=>?_)
     clear hD hS hK K'
     have hD:=hD2
     have hS:=hS2
     clear hD2 hS2
     (try simp only[putL])
     refine on 7 hD fun K' hK=>?_
     go_simp
     refine hK.o _ _ (fun h9=>by cases h9) (fun hD2 hS2=>?_)
     clear hD hS hK K'
     have hD:=hD2
     have hS:=hS2
     clear hD2 hS2
     (try simp only[putL])
     refine wATd (by kernel_rfl) ?_ _
     clear hD hS hc6 hf6
     have hiv4:(w6.setCell ⟨w.heap.size+1,5,none⟩ (.slice ao6 (ks.length+1) c6)).cell? ⟨w.heap.size+1,4,none⟩=some iv:=ceb H6.o.vb
     have H7:=H6
     clear H6
     generalize w6.setCell ⟨w.heap.size+1,5,none⟩ (.slice ao6 (ks.length+1) c6)=w7 at *
     have HCV:Hid (w7.cell? ⟨w.heap.size+1,4,none⟩=some iv):=hiv4
     have HD1:Hid (((12-k:Nat):Int)+1=((13-k:Nat):Int)):=by unfold Hid;omega
     have h12:12-k≤12:=by omega
     have HV:=hide (IH.o w7.drew q2 (HE.o.only HA.o.sc.hb (Nat.le_of_lt (Nat.lt_of_le_of_lt HA.o.sc.hb HA.o.lt)) (H7.o.drew.only)) H7.o.drew.sc)
     obtain⟨ao1,c1,hiv⟩:=ows H7.o.own
     clear hiv4
     go_wp2_with fail
     refine wrT (SCell 9 (w.heap.size+1) 4 iv) (by kernel_rfl) ?_
     intro hD
     have hS:SCell 9 (w.heap.size+1) 4 iv (Array.replicate 10 false) w7.drew:=fun _=>HCV.o
     refine ti 0 ?_ hD hS ?_
     clear hD hS;intro hD hS;(try simp only[putL])
     refine tk 1 ?_ hD ?_ hS ?_
     rotate_left
     ·intro W hW;obtain⟨L,hDs,hL,hSL⟩:=hW;have hcl:=hSL (by cases h9:L.getD 9 false with | false=>rfl | true=>exact absurd (hDs.came 2 9 (by kernel_rfl) h9) (by rw[gDi hL];decide));go_simp;try(with_reducible rfl)
     clear hD hS;intro hD hS;(try simp only[putL])
     refine ti 2 ?_ hD hS ?_
     clear hD hS;intro hD hS;(try simp only[putL])
     refine ti 3 ?_ hD hS ?_
     clear hD hS;intro hD hS;(try simp only[putL])
     refine ti 4 ?_ hD hS ?_
     clear hD hS;intro hD hS;(try simp only[putL])
     have HW1:Hid (IntKind.i64.wrap (((12-k:Nat):Int)+1)=((13-k:Nat):Int)):=by unfold Hid;rw[IntKind.wrap_i64];omega
     cases hv:Fo.value k q2 with
     |none =>
      rw[hv]at HV HR1
      have HE2:Hid (R=none):=by unfold Hid;rw[←HR1.o];rfl
      clear hv HR1
      refine on 5 hD fun K' hK=>?_
      go_simp
      rw[HW1.o]
      refine HV.o.mono ?_
      rintro e w8 ⟨rfl,k2⟩
      exact⟨rfl,SRes.none_ (by rw[HE2.o];rfl) (H7.o.drew.only.trans k2)⟩
     |some x =>
      obtain⟨V,q3⟩:=x
      rw[hv]at HV HR1
      have hqv:=Fo.value_len hv
      have HR2:Hid (addD (ks++[s]) (Vs++[V]) (Fo.dic (Fo.value k) m q3)=R):=by
       unfold Hid
       rw[←HR1.o];exact(aDc _ _ _ _ _).symm
      clear hv HR1
      refine on 5 hD fun K' hK=>?_
      go_simp
      rw[HW1.o]
      refine HV.o.mono ?_
      rintro e w8 ⟨v,rfl,hvi,h2,k2⟩
      have H8:=hide (H7.o.drew.step h2 k2 (by omega))
      have HC2:Hid (w8.cell? ⟨w.heap.size+1,4,none⟩=some iv):=by unfold Hid;rw[ceb H8.o.vb];rfl
      have HVI:=hide hvi
      have hVc:=hvi.cells
      obtain⟨a0,a1,a2,a3,a4,a5,a6,rfl⟩:∃ a0 a1 a2 a3 a4 a5 a6,v=.agg #[a0,a1,a2,a3,a4,a5,a6]:=VIn.agg hvi
      have hs2:=h2.lt
      clear hvi h2 k2 HV
      refine hK.o _ _ (fun _=>HC2.o) (fun hD2 hS2=>?_)
      clear hD hS hK K'
      have hD:=hD2
      have hS:=hS2
      clear hD2 hS2
      (try simp only[putL])
      refine on 6 hD fun K' hK=>?_
      go_simp
      have H9:=hide (H8.o.alloc (.cells #[a0,a1,a2,a3,a4,a5,a6] 67))
      have HC3:Hid ((w8.alloc (.cells #[a0,a1,a2,a3,a4,a5,a6] 67)).cell? ⟨w.heap.size+1,4,none⟩=some iv):=by unfold Hid;rw[ceb H9.o.vb];rfl
      refine hK.o _ _ (fun _=>HC3.o) (fun hD2 hS2=>?_)
      clear hD hS hK K'
      have hD:=hD2
      have hS:=hS2
      clear hD2 hS2
      (try simp only[putL])
      refine on 7 hD fun K' hK=>?_
      have hfew:=HA.o.few
      have hsz:=H8.o.only.size
      have hvl:=lt_of_block H8.o.vb
      refine saw rfl (.tmp 21) (.tmp 26) 29 rfl (w.heap.size+2) 67 i0 _ 7 112 Tryz.underlying29 hi hz0 hz1 hz2 rfl (by decide) iv vs.length (vs.flatMap cellsOf) (by rw[hiv];rfl) H9.o.own ⟨w8.heap.size,0,none⟩ 1 1 [a0,a1,a2,a3,a4,a5,a6] rfl rfl ?hnews ?hone ?h63 ?hby ?hbs ?_
      case hnews =>
       intro j u hu
       rw[aa,ceb (bln w8 _)]
       simpa using hu
      case hone=>exact hVc.2
      case h63=>unfold maxLen;omega
      case hby=>omega
      case hbs=>simp;omega
      intro v9 w9 own9 hg9 hw9
      have HX3:Hid (VIn (fun g=>w7.drew.heap.size≤g) k (w8.alloc (.cells #[a0,a1,a2,a3,a4,a5,a6] 67)) (.agg #[a0,a1,a2,a3,a4,a5,a6]) V):=VIn.keep k HVI.o (fun g _ hg=>((Below.refl w8.heap.size w8).alloc (Nat.le_refl _) _).block g hg)
      have H10:=hide (H9.o.item (S:=w7.heap.size) (fun g hg=>(H7.o.own.lt g hg).2) (fun g hg=>(H7.o.ownk.lt g hg).2) (by have:=lt_of_block H7.o.vb;omega) HX3.o own9 hg9 hw9 (by omega))
      have hv9:w9.heap[w.heap.size+1]?=some (.cells #[.int .i64 7,.int .i64 0,.int .i64 0,.string { data:=#[] },iv,.slice ao6 (ks.length+1) c6,.slice none 0 0] 67 (0,0)):=by
       rw[hg9.block _ (by have:=lt_of_block H9.o.vb;exact this) (fun e=>by have:=(H9.o.own.lt _ e.symm).1;omega)];exact H9.o.vb
      have hc9:w9.cell? ⟨w.heap.size+1,4,none⟩=some iv:=ceb hv9
      have hf9:w9.frozen? ⟨w.heap.size+1,4,none⟩=false:=frb hv9
      obtain⟨ao9,c9,hv9s⟩:=ows own9
      subst hv9s
      have HM9:=hide H10.o.sc.posS
      clear own9 hg9 hw9 hv9 H9 HX3 HVI HC3 HC2 H8 hVc
      refine hK.o _ _ (fun _=>hc9) (fun hD2 hS2=>?_)
      clear hD hS hK K'
      have hD:=hD2
      have hS:=hS2
      clear hD2 hS2
      (try simp only[putL])
      refine on 8 hD fun K' hK=>?_
      go_simp
      refine hK.o _ _ (fun _=>hc9) (fun hD2 hS2=>?_)
      clear hD hS hK K'
      have hD:=hD2
      have hS:=hS2
      clear hD2 hS2
      (try simp only[putL])
      refine on 9 hD fun K' hK=>?_
      go_simp
      refine hK.o _ _ (fun h9=>by cases h9) (fun hD2 hS2=>?_)
      clear hD hS hK K'
      have hD:=hD2
      have hS:=hS2
      clear hD2 hS2
      (try simp only[putL])
      refine wATd (by kernel_rfl) ?_ _
      clear hD hS hc9 hf9
      go_wp2
      go_roundw
      case rel=>exact⟨m,q3,_,_,_,_,_,H10,by omega,HR2⟩
      case measure =>
       rw[HPQ.o,HM9.o]
       omega
end
section
variable{B bs:Nat}{w w':World}
theorem iBe(c:UInt8):∀ u:List UInt8,Lib.indexByte u c=if u.dropWhile (fun b=>b != c)=[]then -1 else((u.takeWhile fun b=>b != c).length:Int)
 | []=>rfl
 |b::l=>by
  rw[Lib.indexByte,List.dropWhile_cons,List.takeWhile_cons,iBe c l]
  by_cases hb:b=c
  ·subst hb;simp
  ·have h1:(b==c)=false:=by simp[hb]
   have h2:(b != c)=true:=by simp[hb]
   rw[h1,h2]
   simp only[if_true]
   by_cases hd:l.dropWhile (fun b=>b != c)=[]
   ·simp[hd]
   ·rw[if_neg hd,if_neg hd]
    simp only[List.length_cons]
    rw[if_neg (by simp),if_neg (by simp)]
    omega
theorem cut_eq(u:List UInt8):Lib.cut u [46]=match u.dropWhile (fun b=>b != 46)with | []=>(u,[],false) | _::t=>(u.takeWhile (fun b=>b != 46),t,true):=by
 have hsp:u.takeWhile (fun b=>b != 46)++u.dropWhile (fun b=>b != 46)=u:=List.takeWhile_append_dropWhile
 cases hd:u.dropWhile (fun b=>b != 46)with
 |nil =>
  have e:Lib.index u [46] = -1:=by rw[Lib.index_one,iBe,if_pos hd]
  unfold Lib.cut
  rw[e,if_neg (by omega)]
 |cons x t =>
  have e:Lib.index u [46]=((u.takeWhile fun b=>b != 46).length:Int):=by rw[Lib.index_one,iBe,if_neg (by rw[hd];simp)]
  unfold Lib.cut
  rw[e,if_pos (by omega),Int.toNat_natCast]
  rw[hd]at hsp
  have key:∀ p:List UInt8,p++(x::t)=u→u.take p.length=p∧u.drop (p.length+1)=t:=by
   rintro p rfl
   simp
  obtain⟨k1,k2⟩:=key _ hsp
  rw[k1]
  simp only[List.length_cons,List.length_nil,Nat.zero_add]
  rw[k2]
theorem ntN(b c:UInt8):(b != c)=(b.toNat != c.toNat):=by
 rw[Bool.eq_iff_iff];simp[UInt8.toNat_inj]
theorem mtW(c:UInt8):∀ u:List UInt8,(u.takeWhile fun b=>b != c).map UInt8.toNat=(u.map UInt8.toNat).takeWhile fun b=>b != c.toNat
 | []=>rfl
 |b::l=>by
  rw[List.takeWhile_cons,List.map_cons,List.takeWhile_cons,←ntN]
  cases h:(b != c)
  ·rfl
  ·simp only[if_true,List.map_cons];rw[mtW c l]
theorem mdW(c:UInt8):∀ u:List UInt8,(u.dropWhile fun b=>b != c).map UInt8.toNat=(u.map UInt8.toNat).dropWhile fun b=>b != c.toNat
 | []=>rfl
 |b::l=>by
  rw[List.dropWhile_cons,List.map_cons,List.dropWhile_cons,←ntN]
  cases h:(b != c)
  ·rfl
  ·simp only[if_true];rw[mdW c l]
theorem etN(b c:UInt8):(b==c)=(b.toNat==c.toNat):=by
 rw[Bool.eq_iff_iff];simp[UInt8.toNat_inj]
theorem mdE(c:UInt8):∀ u:List UInt8,(u.dropWhile fun b=>b==c).map UInt8.toNat=(u.map UInt8.toNat).dropWhile fun b=>b==c.toNat
 | []=>rfl
 |b::l=>by
  rw[List.dropWhile_cons,List.map_cons,List.dropWhile_cons,←etN]
  cases h:(b==c)
  ·rfl
  ·simp only[if_true];rw[mdE c l]
theorem bl_mk(l:List UInt8):bl ⟨l.toArray⟩=l.map UInt8.toNat:=by simp[bl]
theorem tre(S:ByteArray):bl ⟨(Lib.trimRightB S.data.toList 48).toArray⟩=Fo.trim0 (bl S):=by
 rw[bl_mk]
 unfold Lib.trimRightB Fo.trim0 bl
 rw[List.map_reverse,mdE,List.map_reverse]
 rfl
theorem sib(S:ByteArray):S.size=(bl S).length:=(bll S).symm
theorem ba_(a b:ByteArray):bl (a++b)=bl a++bl b:=by
 unfold bl
 rw[ByteArray.data_append]
 simp
end
end Go.Proofs.YtgkljcmjnphpeaaGreatDoor
