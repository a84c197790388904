import Derived.Test.YtgkljcmjnphpeaaGreatDoorK22
set_option linter.unusedVariables false
set_option linter.unusedSimpArgs false
set_option maxHeartbeats 4000000
set_option maxRecDepth 100000
namespace Go.Proofs.YtgkljcmjnphpeaaGreatDoor
open Go.RowKit
section
variable{w w':World}{w0:World}{B bs cap:Nat}{ao:Option Addr}{data q:List Nat}{ov pv lv:Value}{vs:List Value}{Vs:List (VT 12)}{ps:List Value}{Ps:List (List Nat)}{pls:List Nat}
namespace Fo
def objects(len:Nat):Nat→Nat→List Nat→Option ((List (VT 12 × List Nat) × List Nat) × List Nat)
 |0,_,_=>none
 |f+1,n,r=>if([120,114,101,102]:List Nat).isPrefixOf r=true then some (([],[]),r)else match object (n+1) r with
  |none=>none
  |some (x,q)=>(objects len f (n+1) (skip q)).map fun z=>((x::z.1.1,(len-r.length)::z.1.2),z.2)
def document(data:List Nat):Option (List (VT 12 × List Nat) × Int):=match takes [37,80,68,70,45,49,46,52,10] data with
 |none=>none
 |some r=>match objects data.length (r.length+2) 0 (skip r)with
  |none=>none
  |some z=>match crossTable z.1.1.length z.1.2 z.2 with
   |none=>none
   |some q2=>match trailer z.1.1.length q2 with
    |none=>none
    |some y=>match atEnd (data.length-z.2.length) y.2 with
     |none=>none
     |some _=>some (z.1.1,y.1)
end Fo
def addO(Vs:List (VT 12))(Ps:List (List Nat))(pls:List Nat)(o:Option ((List (VT 12 × List Nat) × List Nat) × List Nat)):Option ((List (VT 12) × List (List Nat) × List Nat) × List Nat):=o.map fun z=>((Vs++z.1.1.map Prod.fst,Ps++z.1.1.map Prod.snd,pls++z.1.2),z.2)
theorem aOc(x:VT 12 × List Nat)(p:Nat)(o:Option ((List (VT 12 × List Nat) × List Nat) × List Nat)) :
  addO Vs Ps pls (o.map fun z=>((x::z.1.1,p::z.1.2),z.2))=addO (Vs++[x.1]) (Ps++[x.2]) (pls++[p]) o:=by
 cases o with
 |none=>rfl
 |some z=>simp[addO]
theorem Fi.rebase{w1:World}{rb:Nat}(h:Fi w1 B bs ao cap data w' q ov pv lv vs Vs ps Ps pls){W:World}(hrb:rb=w.heap.size)(h1:w1.heap.size=w.heap.size+1)(hw1:Below w.heap.size w w1)(hlt:bs<w.heap.size)(o:Only rb w' W):Fi w B bs ao cap data W q ov pv lv vs Vs ps Ps pls:=by
 have hBb:=h.sc.hb
 have hsz:=h.only.size
 have hb:∀ g,g<w'.heap.size→g≠rb→W.heap[g]?=w'.heap[g]?:=fun g h1 h2=>o.block g h1 h2
 have rows:∀{e size n:Nat} {v:Value} {xs:List Value},w'.ownsRow w1.heap.size e size v n xs→W.ownsRow w.heap.size e size v n xs:=fun{e size n v xs} ho=>by
  obtain⟨k1,k2⟩:=ho
  refine⟨k1,?_⟩
  rcases k2 with k2 | ⟨g,c,cur,e1,e2,hh,hc⟩
  ·exact Or.inl k2
  ·exact Or.inr ⟨g,c,cur,e1,by omega,by rw[hb g (lt_of_block hh) (by omega)];exact hh,hc⟩
 refine⟨⟨h.sc.hb,by rw[hb bs (lt_of_block h.sc.blk) (by omega)];exact h.sc.blk,h.sc.dat.other (fun g hg=>hb g (by omega) (by omega)),h.sc.byt,h.sc.len,h.sc.lc,h.sc.le,h.sc.suf,h.sc.ad⟩,?_,hlt,rows h.oo,rows h.op,rows h.ol,h.len,fun i x y hx hy=>?_,h.plen,fun i p l hp hl=>(h.pk i p l hp hl).keep (fun g hg=>hb g (by omega) (by omega))⟩
 ·exact⟨o.os.trans (h.only.os.trans hw1.os),o.tape.trans (h.only.tape.trans hw1.tape),o.output.trans (h.only.output.trans hw1.output),by have:=o.size;omega,fun g k1 k2=>(hb g (by omega) (by omega)).trans ((h.only.block g (by omega) k2).trans (hw1.block g k1))⟩
 ·exact VIn.mono 12 (VIn.keep 12 (h.ch i x y hx hy) (fun g hg hg2=>hb g hg2 (by omega))) (fun g hg _=>⟨by omega,hg.2⟩)
def DocRes(w:World)(B bs:Nat)(ao:Option Addr)(cap:Nat)(data:List Nat)(o:Option (List (VT 12 × List Nat) × Int))(e:Ending)(w':World):Prop:=
 match o with
 |some z=>∃ ov pv lv vs ps pls q,e=.returned (.agg #[ov,.int .i64 z.2])∧Fi w B bs ao cap data w' q ov pv lv vs (z.1.map Prod.fst) ps (z.1.map Prod.snd) pls
 |none=>e=gU 4∧Only bs w w'
theorem DocRes.none_{o:Option (List (VT 12 × List Nat) × Int)}(h:o=none)(k:Only bs w w'):DocRes w B bs ao cap data o (gU 4) w':=by subst h;exact⟨rfl,k⟩
theorem DocRes.some_{o:Option (List (VT 12 × List Nat) × Int)}{xs:List (VT 12 × List Nat)}{root:Int}(h:o=some (xs,root))(k:Fi w B bs ao cap data w' q ov pv lv vs (xs.map Prod.fst) ps (xs.map Prod.snd) pls):DocRes w B bs ao cap data o (.returned (.agg #[ov,.int .i64 root])) w':=by subst h;exact⟨_,_,_,_,_,_,_,rfl,k⟩
theorem set2g{w:World}{b:Nat}{c0 c1:Value}{T:TypeId}(h:w.heap[b]?=some (.cells #[c0,c1] T (0,0)))(a0 a1:Value) :
  ((w.setCell ⟨b,0,none⟩ a0).setCell ⟨b,1,none⟩ a1).heap[b]?=some (.cells #[a0,a1] T (0,0)):=by
 rw[bsC _ (bsC _ h)]
 rfl
theorem doo(he:Env B w)(h:Sc B bs ao cap data (.slice none 0 0) (.slice none 0 0) (.slice none 0 0) w data) :
  Calls Tryz.prog 98 #[.pointer (some ⟨bs,0,none⟩)] w (DocRes w B bs ao cap data (Fo.document data)):=by
 have hlt:=h.lt
 have hBb:=h.hb
 have hBw:=h.env
 have hdl:=h.len
 obtain⟨R,hR⟩:∃ R,Fo.document data=R:=⟨_,rfl⟩
 rw[hR]
 have HR:=hide hR
 unfold Fo.document at HR
 have b1:Below w.heap.size w (w.alloc (.cells #[.slice none 0 0,.int .i64 0] 31)):=(Below.refl _ _).alloc (Nat.le_refl _) _
 have hs1:(w.alloc (.cells #[.slice none 0 0,.int .i64 0] 31)).heap.size=w.heap.size+1:=by simp
 have hx1:(w.alloc (.cells #[.slice none 0 0,.int .i64 0] 31)).heap[w.heap.size]?=some (.cells #[.slice none 0 0,.int .i64 0] 31 (0,0)):=bln _ _
 obtain⟨w1,hw1⟩:∃ w1,w.alloc (.cells #[.slice none 0 0,.int .i64 0] 31)=w1:=⟨_,rfl⟩
 rw[hw1]at b1 hs1 hx1
 have H1:Hid (Fi w1 B bs ao cap data w1 data (.slice none 0 0) (.slice none 0 0) (.slice none 0 0) [] [] [] [] []):=
  ⟨h.other b1,Only.refl _ _,by omega,World.ownsRow_nil _ _ _ _,World.ownsRow_nil _ _ _ _,World.ownsRow_nil _ _ _ _,rfl,fun i x y hx _=>by simp at hx,rfl,fun i p l hp _=>by simp at hp⟩
 have HE1:Hid (Env B w1):=he.only (bs:=bs) hBb hBw (.of_below b1)
 have HB1:=hide b1
 have HW1:=hide hw1
 have HX1:=hide hx1
 have HT:=hide (sto H1.o.sc { data:=#[37,80,68,70,45,49,46,52,10] } (by decide) (by decide))
 rw[show bl { data:=#[37,80,68,70,45,49,46,52,10] }=[37,80,68,70,45,49,46,52,10]from rfl]at HT
 have HKO:Hid (∀ W:World,Only bs w1 W→Only bs w W):=fun W o=>(Only.of_below b1).trans o
 clear h he hR b1 hx1 hw1
 cases e1:Fo.takes [37,80,68,70,45,49,46,52,10] data with
 |none =>
  rw[e1]at HT HR
  have HRN:Hid (R=none):=HR.o.symm
  clear HR
  go_enter Tryz.func98,Tryz.ntmps98
  go_wp2_with fail
  rw[HW1.o]
  refine HT.o.mono ?_
  rintro e w2 ⟨rfl,h2,k2⟩
  have K2:=hide (HKO.o _ k2)
  clear h2 k2
  go_wp2_with fail
  refine(sn _).mono ?_
  rintro e w' ⟨rfl,hw⟩
  have hw:=hw.symm
  subst hw
  exact⟨rfl,.none_ HRN.o K2.o⟩
 |some r =>
  have hr:=(Fo.takes_len e1).1
  rw[e1]at HT HR
  simp only[]at HR
  clear e1
  go_enter Tryz.func98,Tryz.ntmps98
  go_wp2_with fail
  rw[HW1.o]
  refine HT.o.mono ?_
  rintro e w2 ⟨rfl,h2,k2⟩
  have H2:=hide (H1.o.step (show Sc B bs ao cap data _ _ _ w2 r from h2) k2)
  have HSK:=hide (sso H2.o.sc)
  clear h2 k2 HT H1
  go_wp2_with fail
  refine(smy _).mono ?_
  rintro e w' ⟨rfl,hw⟩
  have hw:=hw.symm
  subst hw
  go_wp2_with fail
  refine HSK.o.mono ?_
  rintro e w3 ⟨rfl,h3,k3⟩
  have H3:=hide (H2.o.step h3 k3)
  have hsl:=Fo.skip_len r
  have HO0:Hid (addO [] [] [] (Fo.objects data.length (r.length+2) 0 (Fo.skip r))=(Fo.objects data.length (r.length+2) 0 (Fo.skip r)).map fun z=>((z.1.1.map Prod.fst,z.1.1.map Prod.snd,z.1.2),z.2)):=by
   unfold Hid addO
   cases Fo.objects data.length (r.length+2) 0 (Fo.skip r)<;>simp
  obtain⟨OB,hOB⟩:∃ OB,addO [] [] [] (Fo.objects data.length (r.length+2) 0 (Fo.skip r))=OB:=⟨_,rfl⟩
  rw[hOB]at HO0
  have HOB:=hide hOB
  clear h3 k3 HSK H2 hOB
  go_wp2
  go_loopw [14] (fun _ wr=>∃(f:Nat) (qq:List Nat) (ov pv lv:Value) (vs:List Value) (Vs:List (VT 12)) (ps:List Value) (Ps:List (List Nat)) (pls:List Nat),Hid (Fi w1 B bs ao cap data wr qq ov pv lv vs Vs ps Ps pls)∧qq.length<f∧pls.length+qq.length≤200000∧Hid (vs.length=pls.length∧ps.length=pls.length∧∀ p∈pls,p≤200000)∧Hid (addO Vs Ps pls (Fo.objects data.length f pls.length qq)=OB)) (fun _ wr=>data.length-posS bs wr)
  case atStart=>exact⟨r.length+2,Fo.skip r,_,_,_,_,_,_,_,_,H3,by omega,by simp only[List.length_nil];omega,⟨rfl,rfl,fun p hp=>by cases hp⟩,HOB⟩
  clear H3 HOB
  case round =>
   obtain⟨f,qq,ov,pv,lv,vs,Vs,ps,Ps,pls,HF,hf,hfew,HL,HOB⟩:=hrel
   obtain⟨f,rfl⟩:∃ f',f=f'+1:=⟨f-1,by omega⟩
   have HPQ:=hide HF.o.sc.posS
   have hqd:=HF.o.sc.le
   have HA:=hide (so0 HF.o.sc { data:=#[120,114,101,102] } (by decide) (by decide))
   rw[show bl { data:=#[120,114,101,102] }=[120,114,101,102]from rfl]at HA
   cases hx:([120,114,101,102]:List Nat).isPrefixOf qq with
   |true =>
    rw[hx]at HA
    have hOB2:OB=some ((Vs,Ps,pls),qq):=by
     rw[←HOB.o]
     unfold Fo.objects addO
     rw[if_pos hx]
     simp
    rw[hOB2]at HO0
    cases hz:Fo.objects data.length (r.length+2) 0 (Fo.skip r)with
    |none=>have:=HO0.o;rw[hz]at this;cases this
    |some z =>
     obtain⟨⟨xs,pz⟩,qz⟩:=z
     have hzz:=HO0.o
     rw[hz]at hzz HR
     simp at hzz
     obtain⟨⟨hV,hP,rfl⟩,rfl⟩:=hzz
     simp only[]at HR
     have HVP:=hide (And.intro hV hP)
     have hxl:xs.length=vs.length:=by have:=HF.o.len;rw[this,hV,List.length_map]
     obtain⟨n,hn⟩:∃ n,vs.length=n:=⟨_,rfl⟩
     rw[hxl,hn]at HR
     have hn2:n≤200000:=by have:=HL.o.1;omega
     have HN:=hide hn
     clear hz hx hOB2 HO0 HOB hxl hV hP hn
     go_wp2_with fail
     refine HA.o.mono ?_
     rintro e w4 ⟨rfl,m4,hw4⟩
     have H4:=hide (HF.o.below (show Below wr.heap.size wr w4 by rw[hw4];exact bdN _ _))
     clear hw4 HA HF HPQ
     obtain⟨tb,htb⟩:∃ tb,data.length-qq.length=tb:=⟨_,rfl⟩
     rw[htb]at HR
     have c1:w4.cell? ⟨bs,1,none⟩=some (.int .i64 (tb:Int)):=by rw[←htb];exact H4.o.sc.c1
     have htb2:tb≤200000:=by omega
     obtain⟨oa,oc,hov⟩:=ows H4.o.oo
     rw[HN.o]at hov
     have HEW:Hid (∀ W:World,Only bs w1 W→Env B W):=fun W o=>HE1.o.only hBb (by omega) o
     have HCT:=hide (cTo (HEW.o _ H4.o.only) H4.o.sc (n:=n) hov hn2 HL.o.2.2 (by omega) H4.o.ol H4.o.lt)
     clear htb
     cases e5:Fo.crossTable n pls qq with
     |none =>
      rw[e5]at HCT HR
      have HRN:Hid (R=none):=HR.o.symm
      clear HR
      go_wp2_with fail
      refine HCT.o.mono ?_
      rintro e w5 ⟨rfl,k5⟩
      exact⟨rfl,.none_ HRN.o (HKO.o _ (H4.o.only.trans k5))⟩
     |some q2 =>
      rw[e5]at HCT HR
      simp only[]at HR
      go_wp2_with fail
      refine HCT.o.mono ?_
      rintro e w5 ⟨rfl,h5,k5⟩
      have H5:=hide (H4.o.step h5 k5)
      have HTR:=hide (tro (HEW.o _ H5.o.only) H5.o.sc (n:=n) hov hn2)
      clear h5 k5 HCT H4 c1 e5
      cases e6:Fo.trailer n q2 with
      |none =>
       rw[e6]at HTR HR
       have HRN:Hid (R=none):=HR.o.symm
       clear HR
       go_wp2_with fail
       refine HTR.o.mono ?_
       rintro e w6 ⟨rfl,k6⟩
       exact⟨rfl,.none_ HRN.o (HKO.o _ (H5.o.only.trans k6))⟩
      |some y =>
       obtain⟨root,q3⟩:=y
       rw[e6]at HTR HR
       simp only[]at HR
       go_wp2_with fail
       refine HTR.o.mono ?_
       rintro e w6 ⟨_,rfl,hroot,h6,k6⟩
       unfold intV at hroot
       subst hroot
       have H6:=hide (H5.o.step h6 k6)
       have HEN:=hide (feo (HEW.o _ H6.o.only) H6.o.sc tb htb2)
       clear h6 k6 HTR H5 e6
       cases e7:Fo.atEnd tb q3 with
       |none =>
        rw[e7]at HEN HR
        have HRN:Hid (R=none):=HR.o.symm
        clear HR
        go_wp2_with fail
        refine HEN.o.mono ?_
        rintro e w7 ⟨rfl,k7⟩
        exact⟨rfl,.none_ HRN.o (HKO.o _ (H6.o.only.trans k7))⟩
       |some q4 =>
        rw[e7]at HEN HR
        simp only[]at HR
        go_wp2_with fail
        refine HEN.o.mono ?_
        rintro e w7 ⟨rfl,h7,k7⟩
        have H7:=hide (H6.o.step h7 k7)
        have hx7:w7.heap[w.heap.size]?=some (.cells #[.slice none 0 0,.int .i64 0] 31 (0,0)):=by
         rw[H7.o.only.block _ (lt_of_block HX1.o) (by omega)];exact HX1.o
        have c2:w7.cell? ⟨bs,2,none⟩=some ov:=H7.o.sc.c2
        have r0:w7.cell? ⟨w.heap.size,0,none⟩=some (.slice none 0 0):=ceb hx7
        have r1:w7.cell? ⟨w.heap.size,1,none⟩=some (.int .i64 0):=ceb hx7
        have f0:w7.frozen? ⟨w.heap.size,0,none⟩=false:=frb hx7
        have f1:w7.frozen? ⟨w.heap.size,1,none⟩=false:=frb hx7
        have HX7:=hide hx7
        subst hov
        clear h7 k7 HEN H6 e7 hx7 HX1
        go_wp2
        have hf:=set2g HX7.o (.slice oa n oc) (.int .i64 root)
        have ho:Only w.heap.size w7 ((w7.setCell ⟨w.heap.size,0,none⟩ (.slice oa n oc)).setCell ⟨w.heap.size,1,none⟩ (.int .i64 root)):=((Only.refl _ w7).setCell 0 _).setCell 1 _
        refine bodyPost_ret (v:=.agg #[.slice oa n oc,.int .i64 root]) ?_ rfl ?_
        ·exact results_cell_row Tryz.results98 _ _ w.heap.size 31 _ _ _ rfl hf Tryz.underlying31 rfl (by kernel_rfl)
        have hfin:=H7.o.rebase (w:=w) rfl hs1 HB1.o hlt ho
        rw[HVP.o.1,HVP.o.2]at hfin
        exact .some_ HR.o.symm hfin
   |false =>
    rw[hx]at HA
    have HOB2:Hid (addO Vs Ps pls (match Fo.object (pls.length+1) qq with | none=>none | some (x,q)=>(Fo.objects data.length f (pls.length+1) (Fo.skip q)).map fun z=>((x::z.1.1,(data.length-qq.length)::z.1.2),z.2))=OB):=by
     unfold Hid
     rw[←HOB.o]
     conv=>rhs;rw[Fo.objects,if_neg (by rw[hx];decide)]
    clear hx HOB
    go_wp2_with fail
    refine HA.o.mono ?_
    rintro e w4 ⟨rfl,m4,hw4⟩
    have H4:=hide (HF.o.below (show Below wr.heap.size wr w4 by rw[hw4];exact bdN _ _))
    clear hw4 HA HF
    have HB:=hide (obo HE1.o H4.o hfew HL.o.1 HL.o.2.1)
    cases e5:Fo.object (pls.length+1) qq with
    |none =>
     rw[e5]at HB HOB2
     have HRN:Hid (R=none):=by
      unfold Hid
      have h1:OB=none:=HOB2.o.symm
      have h2:=HO0.o
      rw[h1]at h2
      cases hz:Fo.objects data.length (r.length+2) 0 (Fo.skip r)with
      |none=>rw[←HR.o,hz]
      |some z=>rw[hz]at h2;cases h2
     go_wp2_with fail
     refine HB.o.mono ?_
     rintro e w5 ⟨rfl,k5⟩
     exact⟨rfl,.none_ HRN.o (HKO.o _ k5)⟩
    |some x =>
     obtain⟨x,q5⟩:=x
     have hq5:=Fo.object_len e5
     have hsk:=Fo.skip_len q5
     rw[e5]at HB HOB2
     simp only[]at HOB2
     rw[aOc]at HOB2
     clear e5
     go_wp2_with fail
     refine HB.o.mono ?_
     rintro e w5 ⟨rfl,ov5,pv5,lv5,vs5,ps5,h5⟩
     have hvl5:vs5.length=pls.length+1:=by
      have a1:=h5.len
      have a2:=H4.o.len
      have a3:=HL.o.1
      rw[List.length_append]at a1
      simp at a1
      omega
     have hpl5:ps5.length=pls.length+1:=by
      have a1:=h5.plen
      have a2:=H4.o.plen
      have a3:=HL.o.2.1
      rw[List.length_append]at a1
      simp at a1
      omega
     have HSK:=hide (sso h5.sc)
     have H5:=hide h5
     have HL5:Hid (vs5.length=(pls++[data.length-qq.length]).length∧ps5.length=(pls++[data.length-qq.length]).length∧∀ p∈pls++[data.length-qq.length],p≤200000):=by
      refine⟨by simp[hvl5],by simp[hpl5],fun p hp=>?_⟩
      rcases List.mem_append.1 hp with hp | hp
      ·exact HL.o.2.2 p hp
      ·simp at hp;omega
     have HOB3:Hid (addO (Vs++[x.1]) (Ps++[x.2]) (pls++[data.length-qq.length]) (Fo.objects data.length f (pls++[data.length-qq.length]).length (Fo.skip q5))=OB):=by
      unfold Hid
      rw[List.length_append]
      exact HOB2.o
     clear h5 hvl5 hpl5 HB H4 HOB2
     go_wp2_with fail
     refine HSK.o.mono ?_
     rintro e w6 ⟨rfl,h6,k6⟩
     have H6:=hide (H5.o.step h6 k6)
     have HM6:=hide h6.posS
     clear h6 k6 H5 HSK
     go_wp2
     go_roundw
     case rel=>exact⟨f,Fo.skip q5,_,_,_,_,_,_,_,_,H6,by omega,by simp only[List.length_append,List.length_cons,List.length_nil];omega,HL5,HOB3⟩
     case measure =>
      rw[HPQ.o,HM6.o]
      omega
end
theorem Made.fewf:∀{k:Nat} {V:VT k},Made 200000 V→Fewf V
 |0,_,_=>trivial
 |k+1,V,h=>⟨h.1,h.2.1,by rw[h.2.2.2.2.1];exact Nat.zero_le _,fun y hy=>Made.fewf (h.2.2.2.2.2 y hy)⟩
namespace Fo
theorem fl_:∀(l:List (Nat × List Nat)) (r:List Nat),filts l=some r→r.length≤l.length
 | [],r,h=>by cases h;exact Nat.le_refl _
 |x::l,r,h=>by
  simp only[filts]at h
  split at h
  ·cases e:filts l with
   |none=>rw[e]at h;cases h
   |some r2 =>
    rw[e]at h
    cases h
    have:=fl_ l r2 e
    simp only[List.length_cons];omega
  ·cases h
theorem sOf{k:Nat}{V S:Node (VT k)}(hV:Made 200000 (k:=k+1) V)(h:streamOf V=some S):Fewf (k:=k+1) S:=by
 unfold streamOf at h
 cases e:filtersOf V with
 |none=>rw[e]at h;cases h
 |some fs =>
  rw[e]at h
  cases h
  have hz:(keepZ (V.keys.zip V.items)).length≤200000:=Nat.le_trans (keepZ_len _) (by rw[List.length_zip];have h1:V.items.length≤200000:=hV.1;omega)
  refine⟨by show((keepZ (V.keys.zip V.items)).map Prod.snd).length≤_;rw[List.length_map];exact hz,by show((keepZ (V.keys.zip V.items)).map Prod.fst).length≤_;rw[List.length_map];exact hz,?_,?_⟩
  ·show fs.length≤200000
   unfold filtersOf at e
   cases e2:filterNames V with
   |none=>rw[e2]at e;cases e
   |some l =>
    rw[e2]at e
    have h1:=fl_ l fs e
    have h2:=fNl (Made.few (k:=k+1) hV) e2
    omega
  ·intro y hy
   have hy2:y∈((keepZ (V.keys.zip V.items)).map Prod.snd):=hy
   obtain⟨⟨a,b⟩,h1,rfl⟩:=List.mem_map.1 hy2
   have h3:=(List.of_mem_zip (List.mem_filter.1 h1).1).2
   exact Made.fewf (hV.2.2.2.2.2 _ h3)
theorem oVf{r q:List Nat}{x:VT 12 × List Nat}(h:objVal r=some (x,q))(hr:r.length≤200000):Fewf x.1:=by
 unfold objVal at h
 split at h
 ·cases h
 ·next V q1 e1 =>
  have hm:=value_made e1 hr
  split at h
  ·split at h
   ·next t e2 =>
    unfold stream at h
    split at h
    ·cases h
    ·split at h
     ·cases h
     ·split at h
      ·split at h
       ·cases h
       ·split at h
        ·split at h
         ·cases h
         ·next S e3=>cases h;exact sOf (k:=11) hm e3
        ·cases h
      ·cases h
   ·cases h;exact Made.fewf hm
  ·cases h;exact Made.fewf hm
theorem of_{n:Nat}{r q:List Nat}{x:VT 12 × List Nat}(h:object n r=some (x,q))(hr:r.length≤200000):Fewf x.1:=by
 unfold object at h
 split at h
 ·cases h
 ·next q1 e1 =>
  split at h
  ·cases h
  ·next q2 e2 =>
   split at h
   ·cases h
   ·next q3 e3 =>
    split at h
    ·cases h
    ·next y q4 e4 =>
     split at h
     ·cases h
     ·cases h
      have:=takesWord_len e1
      have:=takesWord_len e2
      have:=takesWord_len e3
      exact oVf e4 (by omega)
theorem obf(len:Nat):∀(f n:Nat) (r:List Nat) (z:(List (VT 12 × List Nat) × List Nat) × List Nat),objects len f n r=some z→r.length≤200000→z.1.1.length+z.2.length≤r.length∧∀ x∈z.1.1,Fewf x.1
 |0,n,r,z,h,_=>by cases h
 |f+1,n,r,z,h,hr=>by
  rw[objects]at h
  split at h
  ·cases h;exact⟨by simp,fun x hx=>by cases hx⟩
  ·cases e:object (n+1) r with
   |none=>rw[e]at h;cases h
   |some y =>
    obtain⟨x,q⟩:=y
    rw[e]at h
    simp only[]at h
    have h1:=object_len e
    have h2:=of_ e hr
    have h3:=skip_len q
    cases e2:objects len f (n+1) (skip q)with
    |none=>rw[e2]at h;cases h
    |some z2 =>
     rw[e2]at h
     cases h
     have ih:=obf len f (n+1) (skip q) z2 e2 (by omega)
     refine⟨by simp only[List.length_cons];omega,fun y hy=>?_⟩
     rcases List.mem_cons.1 hy with rfl | hy
     ·exact h2
     ·exact ih.2 y hy
theorem document_fewf{data:List Nat}{z:List (VT 12 × List Nat) × Int}(h:document data=some z)(hd:data.length≤200000):z.1.length≤200000∧∀ x∈z.1,Fewf x.1:=by
 unfold document at h
 split at h
 ·cases h
 ·next r e1 =>
  have h1:=(takes_len e1).1
  have h2:=skip_len r
  split at h
  ·cases h
  ·next z2 e2 =>
   have h3:=obf _ _ _ _ _ e2 (by omega)
   split at h
   ·cases h
   ·split at h
    ·cases h
    ·split at h
     ·cases h
     ·cases h
      exact⟨by show z2.1.1.length≤200000;omega,h3.2⟩
end Fo
section
variable{w w':World}
def RdRes(w:World)(o:Option (List (VT 12) × Int))(e:Ending)(w':World):Prop:=
 Below w.heap.size w w'∧match o with
  |some z=>∃ ov,e=.returned (.agg #[ov,.int .i64 z.2])∧Vals (fun g=>w.heap.size≤g) 12 w.heap.size z.1 w' ov
  |none=>e=gU 4
end
section
variable{w:World}
theorem rra(n:Int)(w:World):(Instr.typeAssert (.iface 58 (.int .i64 n)) 20 58 true).run Tryz.prog w=.ok (.tuple #[.int .i64 n,.bool true]) w:=by kernel_rfl
theorem rto(n k:Int)(w:World):Calls Tryz.prog 65 #[.iface 58 (.int .i64 n),.int .i64 k] w fun e w'=>e=.returned (.int .i64 n)∧w'=w:=by
 have ha:=rra n
 go_enter Tryz.func65,Tryz.ntmps65
 go_wp2
 go_ret
 exact⟨rfl,rfl⟩
theorem rci(p q:Addr)(w:World) :
  CallsD Tryz.prog 64 #[.pointer (some p),.pointer (some q)] .returning w fun e u' w'=>e=.returned (.tuple #[])∧u'=.returning∧w'=w:=by
 refine callsD_of_wpS Tryz.func64 rfl fun c₀ cs hu=>?_
 apply wpS_seq
 apply wpS_region
 simp[wpOpsS,go_sem,recoverD,hu,Tryz.ntmps64,Exit.thenS,Array.replicate]
 refine wpS_of_wp ?_
 go_wp2
 cases c₀
 simp_all [bodyPostS,results,Tryz.results64]
theorem rp(b:Nat)(n:Int)(older:List PanicEntry)(w:World)(v0 v1 v2:Value)(h0:w.cell? ⟨b,0,none⟩=some v0)(h1:w.cell? ⟨b,1,none⟩=some v1)(h2:w.cell? ⟨b+1,0,none⟩=some v2)(f0:w.frozen? ⟨b,0,none⟩=false)(f1:w.frozen? ⟨b,1,none⟩=false)(f2:w.frozen? ⟨b+1,0,none⟩=false) :
  CallsD Tryz.prog 64 #[.pointer (some ⟨b,0,none⟩),.pointer (some ⟨b+1,0,none⟩)] (.panicking ({ v:=.iface 58 (.int .i64 n),recovered:=false }::older)) w fun e u' w' =>
   e=.returned (.tuple #[])∧u'=.panicking ({ v:=.iface 58 (.int .i64 n),recovered:=true }::older)∧w'=((w.setCell ⟨b,0,none⟩ (.slice none 0 0)).setCell ⟨b,1,none⟩ (.int .i64 0)).setCell ⟨b+1,0,none⟩ (.int .i64 n):=by
 refine callsD_of_wpS Tryz.func64 rfl fun c₀ cs hu=>?_
 apply wpS_seq
 apply wpS_region
 simp[wpOpsS,go_sem,recoverD,hu,Tryz.ntmps64,Exit.thenS,Array.replicate]
 refine wpS_of_wp ?_
 go_wp2_with (go_at_call 65;refine(rto _ _ _).mono ?_;rintro e w' ⟨rfl,rfl⟩)
 simp[bodyPostS,results,Tryz.results64]
def ReR(w:World)(o:Option (List (VT 12) × Int))(e:Ending)(w':World):Prop:=
 Below w.heap.size w w'∧match o with
  |some z=>∃ ov,e=.returned (.tuple #[.agg #[ov,.int .i64 z.2],.int .i64 0])∧Vals (fun g=>w.heap.size≤g) 12 w.heap.size z.1 w' ov
  |none=>e=.returned (.tuple #[.agg #[.slice none 0 0,.int .i64 0],.int .i64 4])
theorem rer(ao:Option Addr)(cap dl:Nat)(most:Nat)(hm:most≤1000000)(hd:dl≤200000)(Vs:List (VT 12))(root:Int)
  (hc:∀ W:World,Below w.heap.size w W→Calls Tryz.prog 66 #[.slice ao dl cap,.int .i64 most] W (RdRes W (some (Vs,root)))) :
  Calls Tryz.prog 25 #[.slice ao dl cap,.int .i64 most] w (ReR w (some (Vs,root))):=by
 have hmf:∀(fn:Fn) (first cap:Array Value) (w:World),(Instr.makeFunc fn first cap).run Tryz.prog w=.ok (.func fn first cap) w:=fun _ _ _ _=>rfl
 have b0:Below w.heap.size w ((w.alloc (.cells #[.slice none 0 0,.int .i64 0] 31)).alloc (.cells #[.int .i64 0] 58)):=((Below.refl _ _).alloc (Nat.le_refl _) _).alloc (by simp) _
 have HC:=hide (hc _ b0)
 have HB0:=hide b0
 clear hc b0
 go_enter_defers Tryz.func25,Tryz.ntmps25
 go_wp2_with (go_at_call 63;refine(wiy _ _ _ _ (by omega) (by omega)).mono ?_;rintro e w' ⟨rfl,rfl⟩)
 refine HC.o.mono ?_
 rintro e w1 ⟨hb,ov,rfl,hv⟩
 obtain⟨oa,oc,rfl⟩:=hv.len
 have x0:w1.heap[w.heap.size]?=some (.cells #[.slice none 0 0,.int .i64 0] 31 (0,0)):=by
  rw[hb.block _ (by simp;omega)];exact bla _ (bln _ _)
 have x1:w1.heap[w.heap.size+1]?=some (.cells #[.int .i64 0] 58 (0,0)):=by
  rw[hb.block _ (by simp)]
  have:=bln (w.alloc (.cells #[.slice none 0 0,.int .i64 0] 31)) (.cells #[.int .i64 0] 58)
  rw[World.size_alloc]at this
  exact this
 have c0:w1.cell? ⟨w.heap.size,0,none⟩=some (.slice none 0 0):=ceb x0
 have c1:w1.cell? ⟨w.heap.size,1,none⟩=some (.int .i64 0):=ceb x0
 have c2:w1.cell? ⟨w.heap.size+1,0,none⟩=some (.int .i64 0):=ceb x1
 have f0:w1.frozen? ⟨w.heap.size,0,none⟩=false:=frb x0
 have f1:w1.frozen? ⟨w.heap.size,1,none⟩=false:=frb x0
 have f2:w1.frozen? ⟨w.heap.size+1,0,none⟩=false:=frb x1
 have HV:=hide hv
 have HB:=hide hb
 clear hv hb x0 x1
 generalize Vs.length=n at *
 go_wp2
 refine leaves_cons (f:= 64) (args:=#[.pointer (some ⟨w.heap.size,0,none⟩),.pointer (some ⟨w.heap.size+1,0,none⟩)]) (by simp) (by simp[go_sem]) ?_
 refine(rci ⟨w.heap.size,0,none⟩ ⟨w.heap.size+1,0,none⟩ _).mono ?_
 rintro e u' w'' ⟨rfl,rfl,rfl⟩
 simp[Leaves,settle,results,Tryz.results25,go_sem,c0,c1,c2,f0,f1,f2]
 have hs0:((w.alloc (.cells #[.slice none 0 0,.int .i64 0] 31)).alloc (.cells #[.int .i64 0] 58)).heap.size=w.heap.size+2:=by simp
 have hb:=HB.o
 have hv:=HV.o
 rw[hs0]at hb hv
 have bw:Below w.heap.size w w1:=HB0.o.trans (HB.o.mono (by omega))
 have hoth:∀ g,w.heap.size+2≤g→(((w1.setCell ⟨w.heap.size,0,none⟩ (.slice oa n oc)).setCell ⟨w.heap.size,1,none⟩ (.int .i64 root)).setCell ⟨w.heap.size+1,0,none⟩ (.int .i64 0)).heap[g]?=w1.heap[g]?:=fun g hg=>by
  rw[bsCn _ (by show g≠w.heap.size+1;omega),bsCn _ (by show g≠w.heap.size;omega),bsCn _ (by show g≠w.heap.size;omega)]
 refine⟨((bw.setCell (by simp) _).setCell (by simp) _).setCell (by simp) _,_,rfl,?_⟩
 obtain⟨ys,k1,k2,k3⟩:=hv
 refine⟨ys,?_,k2,fun i x y hx hy=>VIn.mono 12 (VIn.keep 12 (k3 i x y hx hy) (fun g hg _=>hoth g hg)) (fun g hg _=>by omega)⟩
 obtain⟨j1,j2⟩:=k1
 refine⟨j1,?_⟩
 rcases j2 with j2 | ⟨g,c,cur,e1,e2,hh,hc⟩
 ·exact Or.inl j2
 ·exact Or.inr ⟨g,c,cur,e1,by omega,by rw[hoth g e2];exact hh,hc⟩
end
end Go.Proofs.YtgkljcmjnphpeaaGreatDoor
