import Derived.Test.YtgkljcmjnphpeaaGreatDoorK41
set_option linter.unusedVariables false
set_option linter.unusedSimpArgs false
set_option maxHeartbeats 4000000
set_option maxRecDepth 100000
namespace Go.Proofs.YtgkljcmjnphpeaaGreatDoor
open Go.RowKit
section
variable{w w':World}
theorem fAo{l:List Nat}{fs:List Fil}{b:Nat}{fa:Option Addr}{fc:Nat}(hfs:l=fs.map fun x=>x.1)(hrf:w.ownsRow b 3 1 (.slice fa l.length fc) l.length (l.map fun f:Nat=>.int .i64 (f:Int))):FilsAt w.heap.size w (.slice fa l.length fc) fs:=by
 rcases hrf.2 with⟨h1,h2⟩ | ⟨g,c,cur,e1,e2,hg,hn,hm,hsz,hc⟩
 ·refine Or.inl ⟨h1,?_⟩
  have h3:(fs.map fun x=>x.1).length=0:=by rw[←hfs];exact h2
  simpa using h3
 ·refine Or.inr ⟨g,c,?_,lt_of_block hg,fun i hi=>?_⟩
  ·rw[e1,hfs,List.length_map]
  ·rw[ceb hg,←Array.getElem?_toList]
   have hi2:i<l.length:=by rw[hfs,List.length_map];exact hi
   rw[←List.getElem?_take_of_lt (show i<l.length*1 by omega),hc,hfs,List.getElem?_map,List.getElem?_map,List.getElem?_eq_getElem hi]
   simp
theorem FilsAt.mono'{W:World}{a b:Nat}{sv:Value}{fs:List Fil}(h:FilsAt a W sv fs)(hab:a≤b):FilsAt b W sv fs:=by
 rcases h with h | ⟨g,c,e,hg,hc⟩
 ·exact Or.inl h
 ·exact Or.inr ⟨g,c,e,Nat.lt_of_lt_of_le hg hab,hc⟩
def RS(b3 bs gp bx m:Nat)(OV PV pp FV:Value)(_:Array Bool)(W:World):Prop:=W.cell? ⟨b3,0,none⟩=some OV∧W.cell? ⟨bs,3,none⟩=some PV∧W.cell? ⟨gp,m,none⟩=some pp∧W.cell? ⟨bx,6,none⟩=some FV
def UnpS(D:Nat→Nat→List Nat→Except Nat (List Nat)→Prop)(xs:List (VT 12 × List Nat))(res:Except Nat (List (VT 12)))(B gO n oc b:Nat)(w5:World)(m mm:Nat)(W:World):Prop:=
 ∃(dn:List (VT 12)) (r:Except Nat (List (VT 12))),dn.length=m∧mm≤1000000∧Vals (fun g=>b≤g∧(Value.slice (some ⟨gO,0,none⟩) n oc).ownBlock≠some g) 12 b (dn++(xs.drop m).map Prod.fst) W (.slice (some ⟨gO,0,none⟩) n oc)∧UA D (xs.drop m) mm r∧res=r.map (dn ++ ·)∧Only gO w5 W
theorem rSo{D:Nat→Nat→List Nat→Except Nat (List Nat)→Prop}{Q:World→Prop}(hD:DecBy D Q)(hQ:Q w){ao:Option Addr}{cap most:Nat}{data:List Nat}{xs:List (VT 12 × List Nat)}{root:Int}{res:Except Nat (List (VT 12))}(he:Env w.heap.size w)(hd:Dat w w.heap.size ao data)(byt:∀ i,i<data.length→nth data i<256)(len:data.length≤200000)(lc:data.length≤cap∧cap≤9223372036854775807)(ad:∃ bd o,ao=some ⟨bd,o,none⟩∧bd<w.heap.size)
  (hm:most≤1000000) (hdoc:Fo.document data=some (xs,root)) (his:Fo.isDoc (xs.map Prod.fst) root=true) (hfil:∀ x∈xs,∃ fs:List Fil,Node.filters (α:=VT 11) x.1=fs.map fun y=>y.1) (hpb:∀ x∈xs,∀ b∈x.2,b<256) (hU:UA D xs most res) :
  Calls Tryz.prog 66 #[.slice ao data.length cap,.int .i64 (most:Nat)] w (RdS w res root):=by
 have b2:Below w.heap.size w ((w.alloc (.cells #[.slice none 0 0,.int .i64 0] 31)).alloc (.cells #[.slice ao data.length cap,.int .i64 0,.slice none 0 0,.slice none 0 0,.slice none 0 0] 131)):=((Below.refl _ _).alloc (Nat.le_refl _) _).alloc (by simp) _
 have hs2:((w.alloc (.cells #[.slice none 0 0,.int .i64 0] 31)).alloc (.cells #[.slice ao data.length cap,.int .i64 0,.slice none 0 0,.slice none 0 0,.slice none 0 0] 131)).heap.size=w.heap.size+2:=by simp
 have hx0:((w.alloc (.cells #[.slice none 0 0,.int .i64 0] 31)).alloc (.cells #[.slice ao data.length cap,.int .i64 0,.slice none 0 0,.slice none 0 0,.slice none 0 0] 131)).heap[w.heap.size]?=some (.cells #[.slice none 0 0,.int .i64 0] 31 (0,0)):=bla _ (bln _ _)
 have hx1:((w.alloc (.cells #[.slice none 0 0,.int .i64 0] 31)).alloc (.cells #[.slice ao data.length cap,.int .i64 0,.slice none 0 0,.slice none 0 0,.slice none 0 0] 131)).heap[w.heap.size+1]?=some (.cells #[.slice ao data.length cap,.int .i64 0,.slice none 0 0,.slice none 0 0,.slice none 0 0] 131 (0,0)):=by
  have:=bln (w.alloc (.cells #[.slice none 0 0,.int .i64 0] 31)) (.cells #[.slice ao data.length cap,.int .i64 0,.slice none 0 0,.slice none 0 0,.slice none 0 0] 131)
  rw[World.size_alloc]at this
  exact this
 obtain⟨w2,hw2⟩:∃ w2,(w.alloc (.cells #[.slice none 0 0,.int .i64 0] 31)).alloc (.cells #[.slice ao data.length cap,.int .i64 0,.slice none 0 0,.slice none 0 0,.slice none 0 0] 131)=w2:=⟨_,rfl⟩
 rw[hw2]at b2 hs2 hx0 hx1
 have hsc:Sc w.heap.size (w.heap.size+1) ao cap data (.slice none 0 0) (.slice none 0 0) (.slice none 0 0) w2 data:=
  ⟨Nat.le_succ _,by rw[hx1,Nat.sub_self];rfl,hd.other (fun g hg=>b2.block g hg),byt,len,lc,Nat.le_refl _,by rw[Nat.sub_self];rfl,ad⟩
 have he2:Env w.heap.size w2:=he.only (bs:=w.heap.size+1) (Nat.le_succ _) (Nat.le_refl _) (.of_below b2)
 have HD:=hide (doo he2 hsc)
 have HB2:=hide b2
 have HW2:=hide hw2
 have HX0:=hide hx0
 have HFW:=hide (fun z (hz:Fo.document data=some z)=>Fo.document_fewf hz len)
 have HDB:=hide hD
 have HFI:=hide hfil
 have HU:=hide hU
 have HPB:=hide hpb
 have HQ:=hide hQ
 have HIS0:=hide his
 have HBO:Hid (∀ W:World,Only (w.heap.size+1) w2 W→Below w.heap.size w W):=fun W o=>⟨o.os.trans b2.os,o.tape.trans b2.tape,o.output.trans b2.output,by have:=o.size;omega,fun g hg=>(o.block g (by omega) (by omega)).trans (b2.block g hg)⟩
 have hfw:=HFW.o _ hdoc
 have hBY:=byt
 rw[hdoc]at HD
 clear hd lc ad he hsc hD hQ hfil hU hpb his HFW hdoc he2 b2 hx0 hx1 hw2
 have hdl:data.length≤200000:=len
 go_enter Tryz.func66,Tryz.ntmps66
 go_wp2_with fail
 rw[HW2.o]
 refine HD.o.mono ?_
 rintro e w3 ⟨ov,pv,lv,vs,ps,pls,q,rfl,h3⟩
 have H3:=hide h3
 have hb3:=HBO.o _ h3.only
 obtain⟨oa,oc,hov⟩:=ows h3.oo
 have hvl:vs.length=(xs.map Prod.fst).length:=h3.len
 rw[hvl]at hov
 obtain⟨n,hn⟩:∃ n,(xs.map Prod.fst).length=n:=⟨_,rfl⟩
 rw[hn]at hov
 have hn2:n≤200000:=by rw[←hn,List.length_map];exact hfw.1
 have HV3:Hid (Vals (fun g=>w2.heap.size≤g∧ov.ownBlock≠some g) 12 w2.heap.size (xs.map Prod.fst) w3 ov):=⟨vs,h3.oo,h3.len,fun i x y hx hy=>VIn.mono 12 (h3.ch i x y hx hy) (fun g hg _=>⟨hg.1,hg.2.1⟩)⟩
 have hg3:∀ g,ov.ownBlock=some g→g<w3.heap.size:=fun g hg=>(h3.oo.lt g hg).2
 have hblk3:=h3.sc.blk
 have hop3:=h3.op
 have HPK3:=hide h3.pk
 have hpl3:ps.length=(xs.map Prod.snd).length:=h3.plen
 have HFF:Hid (∀ y∈xs.map Prod.fst,Fewf y):=fun y hy=>by
  obtain⟨x,hx,rfl⟩:=List.mem_map.1 hy
  exact hfw.2 x hx
 have hx03:w3.heap[w.heap.size]?=some (.cells #[.slice none 0 0,.int .i64 0] 31 (0,0)):=by
  rw[h3.only.block _ (lt_of_block HX0.o) (by omega)];exact HX0.o
 have hs3:=h3.only.size
 have hn1:1≤n:=by
  have h:=HIS0.o
  unfold Fo.isDoc at h
  simp only[Bool.and_eq_true,decide_eq_true_eq]at h
  omega
 have hoa:∃ gO,oa=some ⟨gO,0,none⟩:=by
  rcases h3.oo.2 with⟨_,h0⟩ | ⟨g,_,_,e,_⟩
  ·rw[hvl,hn]at h0;omega
  ·rw[hov]at e;cases e;exact⟨g,rfl⟩
 obtain⟨gO,hgO⟩:=hoa
 rw[hgO]at hov
 subst hov
 obtain⟨pa,pc,hpv⟩:=ows hop3
 subst hpv
 have hgO3:gO<w3.heap.size:=hg3 gO rfl
 have hnx:(xs.map Prod.fst).length=n:=hn
 clear hg3
 have HN:=hide hn
 have b4:Below w3.heap.size w3 (w3.alloc (.cells #[.slice (some ⟨gO,0,none⟩) n oc,.int .i64 root] 31)):=(Below.refl _ _).alloc (Nat.le_refl _) _
 have hx4:(w3.alloc (.cells #[.slice (some ⟨gO,0,none⟩) n oc,.int .i64 root] 31)).heap[w3.heap.size]?=some (.cells #[.slice (some ⟨gO,0,none⟩) n oc,.int .i64 root] 31 (0,0)):=bln _ _
 have hx04:(w3.alloc (.cells #[.slice (some ⟨gO,0,none⟩) n oc,.int .i64 root] 31)).heap[w.heap.size]?=some (.cells #[.slice none 0 0,.int .i64 0] 31 (0,0)):=bla _ hx03
 have HB4:Hid (Below w.heap.size w (w3.alloc (.cells #[.slice (some ⟨gO,0,none⟩) n oc,.int .i64 root] 31))):=hb3.trans (b4.mono hb3.size)
 have HV4:=hide (HV3.o.keep b4)
 have HIS:=hide (is_ok (root:=root) HV4.o.base HFF.o (by rw[HN.o];exact hn2))
 obtain⟨w4,hw4⟩:∃ w4,w3.alloc (.cells #[.slice (some ⟨gO,0,none⟩) n oc,.int .i64 root] 31)=w4:=⟨_,rfl⟩
 rw[hw4]at hx4 hx04 HB4 HV4 HIS
 have HW4:=hide hw4
 have HX4:=hide hx4
 have HX04:=hide hx04
 have hs4:w3.heap.size<w4.heap.size:=lt_of_block hx4
 rw[HIS0.o]at HIS
 have hblk4:=(b4.block _ (lt_of_block hblk3)).trans hblk3
 have hop4:=obW hop3 b4
 rw[hw4]at hblk4 hop4
 have HBK4:=hide hblk4
 have HOP4:=hide hop4
 have HPK4:Hid (∀(i:Nat) (p:Value) (l:List Nat),ps[i]?=some p→(xs.map Prod.snd)[i]?=some l→PackIn w4 w.heap.size l p):=fun i p l h1 h2=>by
  rw[←hw4]
  exact(HPK3.o i p l h1 h2).keep (fun g hg=>b4.block g (by omega))
 clear h3 H3 hb3 hvl hn hx03 HD HV3 b4 hx4 hx04 hw4 HX0 hblk3 hop3 HPK3 hblk4 hop4
 go_wp2_with fail
 try rw[HW4.o]
 refine HIS.o.mono ?_
 rintro e w5 ⟨rfl,b5⟩
 have B5:=hide (HB4.o.trans (b5.mono HB4.o.size))
 have HV5:=hide (HV4.o.keep b5)
 have HX5:Hid (w5.heap[w3.heap.size]?=some (.cells #[(.slice (some ⟨gO,0,none⟩) n oc),.int .i64 root] 31 (0,0))):=by unfold Hid;rw[b5.block _ hs4];exact HX4.o
 have HX05:Hid (w5.heap[w.heap.size]?=some (.cells #[.slice none 0 0,.int .i64 0] 31 (0,0))):=by unfold Hid;rw[b5.block _ (lt_of_block HX04.o)];exact HX04.o
 have HBK5:=hide ((b5.block _ (lt_of_block HBK4.o)).trans HBK4.o)
 have HOP5:=hide (obW HOP4.o b5)
 have HPK5:Hid (∀(i:Nat) (p:Value) (l:List Nat),ps[i]?=some p→(xs.map Prod.snd)[i]?=some l→PackIn w5 w.heap.size l p):=fun i p l h1 h2=>(HPK4.o i p l h1 h2).keep (fun g hg=>b5.block g (by have:=HB4.o.size;omega))
 have hs5:w3.heap.size<w5.heap.size:=lt_of_block HX5.o
 have HG:Hid (w2.heap.size≤gO∧gO<w5.heap.size):=by
  obtain⟨_,k1,_⟩:=HV5.o
  exact k1.lt gO rfl
 have hgs:=HG.o
 clear b5 HIS HB4 HV4 HX4 HX04 hs4 HBK4 HOP4 HPK4
 go_wp2_with fail
 refine(smy _).mono ?_
 rintro e w' ⟨rfl,hw⟩
 have hw:=hw.symm
 subst hw
 have d0:w5.cell? ⟨w3.heap.size,0,none⟩=some (.slice (some ⟨gO,0,none⟩) n oc):=ceb HX5.o
 have HFS0:Hid (UnpS D xs res w.heap.size gO n oc w2.heap.size w5 0 most w5):=⟨[],res,rfl,hm,by simpa using HV5.o,HU.o,by cases res<;>rfl,Only.refl _ _⟩
 go_wp2
 go_loopw [1,21] (fun mv i wr=>∃(m mm:Nat),m≤n∧i=.int .i64 m∧mv=.int .i64 (mm:Nat)∧Hid (UnpS D xs res w.heap.size gO n oc w2.heap.size w5 m mm wr)) (fun _ i _=>n-(intOf i).toNat)
 case atStart=>exact⟨0,most,Nat.zero_le _,rfl,rfl,HFS0⟩
 case round =>
  obtain⟨m,mm,hm3,rfl,rfl,HS⟩:=hrel
  obtain⟨dn,r,hdn,hmm,hV,hUr,hres,hO⟩:=HS.o
  have bw:Below w.heap.size w wr:=B5.o.trans ⟨hO.os,hO.tape,hO.output,hO.size,fun k hk=>hO.block k (by have:=B5.o.size;omega) (by omega)⟩
  have hx6:wr.heap[w3.heap.size]?=some (.cells #[(.slice (some ⟨gO,0,none⟩) n oc),.int .i64 root] 31 (0,0)):=by rw[hO.block _ hs5 (by omega)];exact HX5.o
  rcases Nat.eq_or_lt_of_le hm3 with hm3 | hm3
  ·subst hm3
   have hdr:xs.drop m=[]:=List.drop_of_length_le (by rw[List.length_map]at hnx;omega)
   rw[hdr]at hUr hV
   have hr0:r=.ok []:=hUr
   subst hr0
   have HRS:Hid (res=.ok dn):=by
    unfold Hid
    rw[hres]
    show Except.ok (dn++[])=_
    rw[List.append_nil]
   simp only[List.map_nil,List.append_nil]at hV
   have hx06:wr.heap[w.heap.size]?=some (.cells #[.slice none 0 0,.int .i64 0] 31 (0,0)):=by rw[hO.block _ (lt_of_block HX05.o) (by omega)];exact HX05.o
   have v0:wr.cell? ⟨w3.heap.size,0,none⟩=some (.slice (some ⟨gO,0,none⟩) m oc):=ceb hx6
   have v1:wr.cell? ⟨w3.heap.size,1,none⟩=some (.int .i64 root):=ceb hx6
   have r0:wr.cell? ⟨w.heap.size,0,none⟩=some (.slice none 0 0):=ceb hx06
   have r1:wr.cell? ⟨w.heap.size,1,none⟩=some (.int .i64 0):=ceb hx06
   have f0:wr.frozen? ⟨w.heap.size,0,none⟩=false:=frb hx06
   have f1:wr.frozen? ⟨w.heap.size,1,none⟩=false:=frb hx06
   have HX6:=hide hx06
   have HVV:=hide hV
   have BW:=hide bw
   clear hx6 hx06 hV hUr hres hO bw hdr
   go_wp2
   have hf:=set2g HX6.o (.slice (some ⟨gO,0,none⟩) m oc) (.int .i64 root)
   have ho:Only w.heap.size wr ((wr.setCell ⟨w.heap.size,0,none⟩ (.slice (some ⟨gO,0,none⟩) m oc)).setCell ⟨w.heap.size,1,none⟩ (.int .i64 root)):=((Only.refl _ wr).setCell 0 _).setCell 1 _
   refine bodyPost_ret (v:=.agg #[(.slice (some ⟨gO,0,none⟩) m oc),.int .i64 root]) ?_ rfl ?_
   ·exact results_cell_row Tryz.results66 _ _ w.heap.size 31 _ _ _ rfl hf Tryz.underlying31 rfl (by kernel_rfl)
   have bw:=BW.o
   refine .ok_ ⟨ho.os.trans bw.os,ho.tape.trans bw.tape,ho.output.trans bw.output,Nat.le_trans bw.size ho.size,fun g hg=>(ho.block g (by have:=bw.size;omega) (by omega)).trans (bw.block g hg)⟩ HRS.o ?_
   obtain⟨ys,k1,k2,k3⟩:=HVV.o
   refine⟨ys,?_,k2,fun i x y hx hy=>VIn.mono 12 (VIn.keep 12 (k3 i x y hx hy) (fun g hg hg2=>ho.block g hg2 (by omega))) (fun g hg _=>by omega)⟩
   obtain⟨j1,j2⟩:=k1
   refine⟨j1,?_⟩
   rcases j2 with j2 | ⟨g,c,cur,e1,e2,hh,hc⟩
   ·exact Or.inl j2
   ·exact Or.inr ⟨g,c,cur,e1,by omega,by rw[ho.block g (lt_of_block hh) (by omega)];exact hh,hc⟩
  ·have hmx:m<xs.length:=by rw[List.length_map]at hnx;omega
   obtain⟨x,hxm⟩:∃ x,xs[m]?=some x:=⟨_,List.getElem?_eq_getElem hmx⟩
   have hdr:xs.drop m=x::xs.drop (m+1):=by
    rw[List.drop_eq_getElem_cons hmx]
    rw[List.getElem?_eq_getElem hmx]at hxm
    cases hxm
    rfl
   have hxin:x∈xs:=List.mem_of_getElem? hxm
   rw[hdr]at hUr hV
   have hy:(dn++(x::xs.drop (m+1)).map Prod.fst)[m]?=some x.1:=by rw[List.getElem?_append_right (by omega),hdn,Nat.sub_self];rfl
   obtain⟨g,c,X,hge,_,_,hxv,hxc⟩:=hV.at hy
   have hge2:gO=g∧oc=c:=by cases hge;exact⟨rfl,rfl⟩
   clear hge
   obtain⟨rfl,rfl⟩:=hge2
   obtain⟨ja,jc,ka,kc,fa,fc,hXe,hsp1,hsp2,hsp3⟩:=VIn.split (k:=11) hxv
   subst hXe
   have e0:wr.cell? ⟨gO,m*7,none⟩=some (.int .i64 (Node.kind (α:=VT 11) x.1:Int)):=hxc 0 _ rfl
   have e1:wr.cell? ⟨gO,m*7+1,none⟩=some (.int .i64 (Node.n (α:=VT 11) x.1)):=hxc 1 _ rfl
   have e2:wr.cell? ⟨gO,m*7+2,none⟩=some (.int .i64 (Node.places (α:=VT 11) x.1:Int)):=hxc 2 _ rfl
   have e3:wr.cell? ⟨gO,m*7+3,none⟩=some (.string (strN (Node.text (α:=VT 11) x.1))):=hxc 3 _ rfl
   have e4:wr.cell? ⟨gO,m*7+4,none⟩=some (.slice ja (Node.items (α:=VT 11) x.1).length jc):=hxc 4 _ rfl
   have e5:wr.cell? ⟨gO,m*7+5,none⟩=some (.slice ka (Node.keys (α:=VT 11) x.1).length kc):=hxc 5 _ rfl
   have e6:wr.cell? ⟨gO,m*7+6,none⟩=some (.slice fa (Node.filters (α:=VT 11) x.1).length fc):=hxc 6 _ rfl
   have d60:wr.cell? ⟨w3.heap.size,0,none⟩=some (.slice (some ⟨gO,0,none⟩) n oc):=ceb hx6
   generalize hyk:(Node.kind (α:=VT 11) x.1:Int)=ky at *
   rcases hUr with⟨hk8,r2,hr2,hrr⟩ | ⟨hk8,hcase⟩
   ·have t8:(ky==8)=false:=by rw[←hyk];simp;omega
    have HN6:Hid (∀ o:Obj,UnpS D xs res w.heap.size gO n oc w2.heap.size w5 (m+1) mm (wr.alloc o)):=fun o=>by
     refine⟨dn++[x.1],r2,by rw[List.length_append,hdn];rfl,hmm,?_,hr2,?_,hO.trans (.of_below ((Below.refl _ _).alloc (Nat.le_refl _) o))⟩
     ·have:=hV.keep ((Below.refl _ _).alloc (Nat.le_refl _) o)
      simpa using this
     ·rw[hres,hrr]
      cases r2<;>simp[Except.map]
    clear hxv hxc hy hV hr2 hrr hres hsp1 hsp2 hsp3 hO bw hyk hdr hxm hx6
    go_wp2
    go_roundw
    case rel=>exact⟨m+1,mm,by omega,by first | rfl | (congr 1),rfl,HN6.o _⟩
    case measure=>simp[intOf];omega
   ·have t8:(ky==8)=true:=by rw[←hyk,hk8];rfl
    obtain⟨fs,hfs⟩:=HFI.o x hxin
    have hpm:m<ps.length:=by rw[hpl3,List.length_map];exact hmx
    obtain⟨pp,hpp⟩:∃ pp,ps[m]?=some pp:=⟨_,List.getElem?_eq_getElem hpm⟩
    have hpk:=(HPK5.o m pp x.2 hpp (by rw[List.getElem?_map,hxm];rfl)).keep (w':=wr) (fun g hg=>hO.block g (by have:=B5.o.size;omega) (by omega))
    have hby:Byts wr pp x.2:=by
     refine⟨?_,HPB.o x hxin⟩
     rcases hpk with⟨h1,h2⟩ | ⟨bd,o,c,e,h1,h2,h3,h4⟩
     ·rw[h1];exact⟨none,0,h2,fun i hi=>absurd hi (by simp),Nat.le_refl _,by omega,fun _=>rfl⟩
     ·exact⟨_,c,e,fun i hi=>⟨bd,o,rfl,by have:=bw.size;omega,h4 i hi⟩,h2,h3,fun h=>by cases h⟩
    obtain⟨qa,qc,hpe,_⟩:=hby.sl
    subst hpe
    have hgp:∃ gp,pa=some ⟨gp,0,none⟩∧gp≠gO∧gp<w5.heap.size∧w5.cell? ⟨gp,m,none⟩=some (.slice qa x.2.length qc):=by
     rcases HOP5.o.2 with⟨_,h0⟩ | ⟨gp,c',cur,e,_,hh,_,_,_,htk⟩
     ·omega
     ·cases e
      refine⟨gp,rfl,?_,lt_of_block hh,?_⟩
      ·rintro rfl
       obtain⟨_,k1,_⟩:=HV5.o
       obtain⟨_,c2,f2,hc2⟩:=owr k1 gp rfl
       rw[hh]at hc2
       simp at hc2
      ·rw[ceb hh,←Array.getElem?_toList,←List.getElem?_take_of_lt (show m<ps.length*1 by omega),htk]
       exact hpp
    obtain⟨gp,rfl,hgp1,hgp2,hgp3⟩:=hgp
    have hpc:wr.cell? ⟨gp,m,none⟩=some (.slice qa x.2.length qc):=(World.cell?_of_block (w:=w5) (hO.block gp hgp2 hgp1)).trans hgp3
    have hbk:wr.heap[w.heap.size+1]?=_:=(hO.block _ (lt_of_block HBK5.o) (by omega)).trans HBK5.o
    have hFA:FilsAt wr.heap.size wr (.slice fa (Node.filters (α:=VT 11) x.1).length fc) fs:=fAo hfs hsp3
    have hfle:(Node.filters (α:=VT 11) x.1).length=fs.length:=by rw[hfs,List.length_map]
    rw[hfle]at hFA
    have hfsl:fs.length≤1000000:=by
     have h:=(HFF.o x.1 (List.mem_map_of_mem hxin)).2.2.1
     rw[←hfle]
     have h2:(Node.filters (α:=VT 11) x.1).length≤200000:=h
     omega
    have HX7:=hide hx6
    have HBK:=hide hbk
    have HHO:=hide hO
    have HVV:=hide hV
    have HFA:=hide hFA
    have HBYT:=hide hby
    have HRES:=hide hres
    have HBW:=hide bw
    have HFSE:=hide hfs
    clear hxv hxc hy hdr hx6 hsp1 hsp2 hsp3 hpp hpk hyk hbk hO hV hFA hby hres bw hfs
    go_wp2_with fail
    have bq:Below wr.heap.size wr (wr.alloc (.cells #[.int .i64 ky,.int .i64 (Node.n (α:=VT 11) x.1),.int .i64 (Node.places (α:=VT 11) x.1:Int),.string (strN (Node.text (α:=VT 11) x.1)),.slice ja (Node.items (α:=VT 11) x.1).length jc,.slice ka (Node.keys (α:=VT 11) x.1).length kc,.slice fa fs.length fc] 67)):=(Below.refl _ _).alloc (Nat.le_refl _) _
    have xq:=bln wr (.cells #[.int .i64 ky,.int .i64 (Node.n (α:=VT 11) x.1),.int .i64 (Node.places (α:=VT 11) x.1:Int),.string (strN (Node.text (α:=VT 11) x.1)),.slice ja (Node.items (α:=VT 11) x.1).length jc,.slice ka (Node.keys (α:=VT 11) x.1).length kc,.slice fa fs.length fc] 67)
    generalize hwq:wr.alloc (.cells #[.int .i64 ky,.int .i64 (Node.n (α:=VT 11) x.1),.int .i64 (Node.places (α:=VT 11) x.1:Int),.string (strN (Node.text (α:=VT 11) x.1)),.slice ja (Node.items (α:=VT 11) x.1).length jc,.slice ka (Node.keys (α:=VT 11) x.1).length kc,.slice fa fs.length fc] 67)=wq at *
    have hwr5:=HHO.o.size
    have q0:wq.cell? ⟨w3.heap.size,0,none⟩=some (.slice (some ⟨gO,0,none⟩) n oc):=by rw[ceb ((bq.block _ (by omega)).trans HX7.o)];rfl
    have q3:wq.cell? ⟨w.heap.size+1,3,none⟩=some (.slice (some ⟨gp,0,none⟩) ps.length pc):=by rw[ceb ((bq.block _ (by omega)).trans HBK.o)];rfl
    have qp:wq.cell? ⟨gp,m,none⟩=some (.slice qa x.2.length qc):=(bq.cell (p:=⟨gp,m,none⟩) (by show gp<_;omega)).trans hpc
    have qf:wq.cell? ⟨wr.heap.size,6,none⟩=some (.slice fa fs.length fc):=ceb xq
    have qs:wq.cell? ⟨gO,m*7+3,none⟩=some (.string (strN (Node.text (α:=VT 11) x.1))):=(bq.cell (p:=⟨gO,m*7+3,none⟩) (by show gO<_;omega)).trans e3
    have qz:wq.frozen? ⟨gO,m*7+3,none⟩=false:=by
     obtain⟨zs,k1,_⟩:=HVV.o
     rcases k1.2 with⟨e,_⟩ | ⟨g',c',cur,e,_,hh,_⟩
     ·cases e
     ·cases e
      exact frb ((bq.block _ (lt_of_block hh)).trans hh)
    have hqw:wr.heap.size<wq.heap.size:=lt_of_block xq
    have HUC:Hid (∀ r0,UnpTo D (Node.filters (α:=VT 11) x.1) x.2 mm r0→Calls Tryz.prog 100 #[.slice fa fs.length fc,.slice qa x.2.length qc,.int .i64 (mm:Nat)] wq.drew (UnpR wq.drew r0)):=fun r0 hr0=>by
     have hb2:Below wr.heap.size wr wq.drew:=bq.drew
     refine uo HDB.o (FilsAt.mono' (HFA.o.below hb2) (by show _≤wq.heap.size;omega)) hfsl (HBYT.o.below hb2) hmm (HDB.o.keep w _ HQ.o (HBW.o.trans (hb2.mono HBW.o.size))) ?_
     rw[←HFSE.o]
     exact hr0
    have BQ:=hide bq
    clear e0 e1 e2 e3 e4 e5 e6 d60 hpc xq bq HX7 HBK
    have HS0:Hid (RS w3.heap.size (w.heap.size+1) gp wr.heap.size m (.slice (some ⟨gO,0,none⟩) n oc) (.slice (some ⟨gp,0,none⟩) ps.length pc) (.slice qa x.2.length qc) (.slice fa fs.length fc) (Array.replicate 17 false) wq.drew):=⟨q0,q3,qp,qf⟩
    have HS7:Hid (∀(L:Array Bool) (w7:World),Below wq.drew.heap.size wq.drew w7→RS w3.heap.size (w.heap.size+1) gp wr.heap.size m (.slice (some ⟨gO,0,none⟩) n oc) (.slice (some ⟨gp,0,none⟩) ps.length pc) (.slice qa x.2.length qc) (.slice fa fs.length fc) L w7):=fun L w7 b7=>⟨(b7.cell (p:=⟨w3.heap.size,0,none⟩) (by show w3.heap.size<wq.heap.size;omega)).trans q0,(b7.cell (p:=⟨w.heap.size+1,3,none⟩) (by show w.heap.size+1<wq.heap.size;omega)).trans q3,(b7.cell (p:=⟨gp,m,none⟩) (by show gp<wq.heap.size;omega)).trans qp,(b7.cell (p:=⟨wr.heap.size,6,none⟩) (by show wr.heap.size<wq.heap.size;omega)).trans qf⟩
    have HBB:Hid (∀ w7:World,Below wq.drew.heap.size wq.drew w7→Below w.heap.size w w7):=fun w7 b7=>HBW.o.trans (((BQ.o.drew).trans (b7.mono (by show wr.heap.size≤wq.heap.size;omega))).mono HBW.o.size)
    have QS:=hide (And.intro qs qz)
    clear q0 q3 qp qf qs qz
    refine wrT (RS w3.heap.size (w.heap.size+1) gp wr.heap.size m (.slice (some ⟨gO,0,none⟩) n oc) (.slice (some ⟨gp,0,none⟩) ps.length pc) (.slice qa x.2.length qc) (.slice fa fs.length fc)) (by kernel_rfl) ?_
    intro hD
    have hS:=HS0.o
    refine ti 0 ?_ hD hS ?_
    clear hD hS;intro hD hS;(try simp only[putL])
    refine tk 1 ?_ hD ?_ hS ?_
    rotate_left
    ·intro W hW;obtain⟨L,hDs,hL,hSL⟩:=hW;obtain⟨s0,s3,sp,sf⟩:=hSL;go_simp;try(with_reducible rfl)
    clear hD hS;intro hD hS;(try simp only[putL])
    refine ti 2 ?_ hD hS ?_
    clear hD hS;intro hD hS;(try simp only[putL])
    refine ti 3 ?_ hD hS ?_
    clear hD hS;intro hD hS;(try simp only[putL])
    refine tk 4 ?_ hD ?_ hS ?_
    rotate_left
    ·intro W hW;obtain⟨L,hDs,hL,hSL⟩:=hW;obtain⟨s0,s3,sp,sf⟩:=hSL;go_simp;try(with_reducible rfl)
    clear hD hS;intro hD hS;(try simp only[putL])
    refine ti 5 ?_ hD hS ?_
    clear hD hS;intro hD hS;(try simp only[putL])
    refine ti 6 ?_ hD hS ?_
    clear hD hS;intro hD hS;(try simp only[putL])
    refine ti 7 ?_ hD hS ?_
    clear hD hS;intro hD hS;(try simp only[putL])
    refine tk 8 ?_ hD ?_ hS ?_
    rotate_left
    ·intro W hW;obtain⟨L,hDs,hL,hSL⟩:=hW;obtain⟨s0,s3,sp,sf⟩:=hSL;go_simp;try(with_reducible rfl)
    clear hD hS;intro hD hS;(try simp only[putL])
    refine ti 9 ?_ hD hS ?_
    clear hD hS;intro hD hS;(try simp only[putL])
    refine ti 10 ?_ hD hS ?_
    clear hD hS;intro hD hS;(try simp only[putL])
    refine tk 11 ?_ hD ?_ hS ?_
    rotate_left
    ·intro W hW;obtain⟨L,hDs,hL,hSL⟩:=hW;obtain⟨s0,s3,sp,sf⟩:=hSL;go_simp;try(with_reducible rfl)
    clear hD hS;intro hD hS;(try simp only[putL])
    refine ti 12 ?_ hD hS ?_
    clear hD hS;intro hD hS;(try simp only[putL])
    rcases hcase with⟨t,r2,ht,hr2,hrr⟩ | ⟨nn,ht,hrr⟩
    ·have HC:=hide (HUC.o _ ht)
     have htl:=UnpTo.le _ _ _ _ ht
     have HUR:=hide (And.intro hr2 hrr)
     clear ht hr2 hrr HUC
     have HN8:Hid (∀ w7:World,Below wq.drew.heap.size wq.drew w7→UnpS D xs res w.heap.size gO n oc w2.heap.size w5 (m+1) (mm-t.length) (w7.setCell ⟨gO,m*7+3,none⟩ (.string (strN t)))):=fun w7 b7=>by
      have bq7:Below wr.heap.size wr w7:=BQ.o.drew.trans (b7.mono (by show wr.heap.size≤wq.heap.size;omega))
      refine⟨dn++[sT (k:=11) x.1 t],r2,by rw[List.length_append,hdn];rfl,by omega,?_,HUR.o.1,?_,(HHO.o.trans (.of_below bq7)).setCell _ _⟩
      ·have hv:=(HVV.o.keep bq7).text (m:=m) (y:=x.1) (by rw[List.getElem?_append_right (by omega),hdn,Nat.sub_self];rfl) (fun g' hg' e=>hg'.2 (by rw[e];rfl)) t
       have e:(dn++(x::xs.drop (m+1)).map Prod.fst).set m (sT (k:=11) x.1 t)=dn++[sT (k:=11) x.1 t]++(xs.drop (m+1)).map Prod.fst:=by
        rw[List.set_append_right _ _ (by omega),hdn,Nat.sub_self,List.append_assoc]
        rfl
       rw[e]at hv
       exact hv
      ·rw[HRES.o,HUR.o.2]
       cases r2<;>simp[Except.map]
     have hsz:(strN t).size=t.length:=stNs t
     refine on 13 hD fun K' hK=>?_
     go_simp
     refine HC.o.mono ?_
     rintro e w7 ⟨b7,rfl⟩
     have hS7:=HS7.o #[] w7 b7
     have zs:w7.cell? ⟨gO,m*7+3,none⟩=some (.string (strN (Node.text (α:=VT 11) x.1))):=(b7.cell (p:=⟨gO,m*7+3,none⟩) (by show gO<wq.heap.size;omega)).trans QS.o.1
     have zz:w7.frozen? ⟨gO,m*7+3,none⟩=false:=(b7.frozen (p:=⟨gO,m*7+3,none⟩) (by show gO<wq.heap.size;omega)).trans QS.o.2
     have HN9:=hide (HN8.o _ b7)
     have z0:=hS7.1
     refine hK.o _ _ hS7 (fun hD2 hS2=>?_)
     clear hD hS hK K'
     have hD:=hD2
     have hS:=hS2
     clear hD2 hS2
     (try simp only[putL])
     refine on 14 hD fun K' hK=>?_
     go_simp
     refine hK.o _ _ hS7 (fun hD2 hS2=>?_)
     clear hD hS hK K'
     have hD:=hD2
     have hS:=hS2
     clear hD2 hS2
     (try simp only[putL])
     refine on 15 hD fun K' hK=>?_
     go_simp
     refine hK.o _ _ hS7 (fun hD2 hS2=>?_)
     clear hD hS hK K'
     have hD:=hD2
     have hS:=hS2
     clear hD2 hS2
     (try simp only[putL])
     refine on 16 hD fun K' hK=>?_
     go_simp
     refine hK.o _ _ ⟨(World.cell?_of_block (w:=w7) (bsCn _ (by show w3.heap.size≠gO;omega))).trans hS7.1,(World.cell?_of_block (w:=w7) (bsCn _ (by show w.heap.size+1≠gO;omega))).trans hS7.2.1,(World.cell?_of_block (w:=w7) (bsCn _ (by show gp≠gO;exact hgp1))).trans hS7.2.2.1,(World.cell?_of_block (w:=w7) (bsCn _ (by show wr.heap.size≠gO;omega))).trans hS7.2.2.2⟩ (fun hD2 hS2=>?_)
     clear hD hS hK K'
     have hD:=hD2
     have hS:=hS2
     clear hD2 hS2
     (try simp only[putL])
     refine wATd (by kernel_rfl) ?_ _
     clear hD hS
     have y0:(w7.setCell ⟨gO,m*7+3,none⟩ (.string (strN t))).cell? ⟨w3.heap.size,0,none⟩=some (.slice (some ⟨gO,0,none⟩) n oc):=(World.cell?_of_block (w:=w7) (bsCn _ (by show w3.heap.size≠gO;omega))).trans z0
     have y3:(w7.setCell ⟨gO,m*7+3,none⟩ (.string (strN t))).cell? ⟨gO,m*7+3,none⟩=some (.string (strN t)):=World.cell?_setCell_same' _ _ _ (by rw[zs];rfl)
     generalize hw8:w7.setCell ⟨gO,m*7+3,none⟩ (.string (strN t))=w8 at *
     clear hw8 z0 zs zz b7 hS7 HC
     go_wp2
     go_roundw
     case rel=>exact⟨m+1,mm-t.length,by omega,by first | rfl | (congr 1),by congr 1;omega,HN9⟩
     case measure=>simp[intOf];omega
    ·have HC:=hide (HUC.o _ ht)
     have HRN:Hid (res=.error nn):=by
      unfold Hid
      rw[HRES.o,hrr]
      rfl
     clear ht hrr HUC
     refine on 13 hD fun K' hK=>?_
     go_simp
     refine HC.o.mono ?_
     rintro e w7 ⟨b7,rfl⟩
     exact⟨rfl,.no_ (HBB.o _ b7) HRN.o⟩
end
section
variable{w:World}
def ReadS(w:World)(res:Except Nat (List (VT 12)))(root:Int)(e:Ending)(w':World):Prop:=
 Below w.heap.size w w'∧match res with
  | .ok Vs=>∃ ov,e=.returned (.tuple #[.agg #[ov,.int .i64 root],.int .i64 0])∧Vals (fun g=>w.heap.size≤g) 12 w.heap.size Vs w' ov
  | .error n=>e=.returned (.tuple #[.agg #[.slice none 0 0,.int .i64 0],.int .i64 (n:Nat)])
theorem rpN(nn:Nat)(ao:Option Addr)(cap dl:Nat)(most:Nat){root:Int}(hm:most≤1000000)(hd:dl≤200000)
  (hc:∀ W:World,Below w.heap.size w W→Calls Tryz.prog 66 #[.slice ao dl cap,.int .i64 most] W (RdS W (.error nn) root)) :
  Calls Tryz.prog 25 #[.slice ao dl cap,.int .i64 most] w (ReadS w (.error nn) root):=by
 have hmf:∀(fn:Fn) (first cap:Array Value) (w:World),(Instr.makeFunc fn first cap).run Tryz.prog w=.ok (.func fn first cap) w:=fun _ _ _ _=>rfl
 have b0:Below w.heap.size w ((w.alloc (.cells #[.slice none 0 0,.int .i64 0] 31)).alloc (.cells #[.int .i64 0] 58)):=((Below.refl _ _).alloc (Nat.le_refl _) _).alloc (by simp) _
 have HC:=hide (hc _ b0)
 have HB0:=hide b0
 clear hc b0
 go_enter_defers Tryz.func25,Tryz.ntmps25
 go_wp2_with (go_at_call 63;refine(wiy _ _ _ _ (by omega) (by omega)).mono ?_;rintro e w' ⟨rfl,rfl⟩)
 refine HC.o.mono ?_
 rintro e w1 ⟨hb,rfl⟩
 have x0:w1.heap[w.heap.size]?=some (.cells #[.slice none 0 0,.int .i64 0] 31 (0,0)):=by
  rw[hb.block _ (by simp;omega)];exact bla _ (bln _ _)
 have x1:w1.heap[w.heap.size+1]?=some (.cells #[.int .i64 0] 58 (0,0)):=by
  rw[hb.block _ (by simp)]
  have:=bln (w.alloc (.cells #[.slice none 0 0,.int .i64 0] 31)) (.cells #[.int .i64 0] 58)
  rw[World.size_alloc]at this
  exact this
 have c0:w1.cell? ⟨w.heap.size,0,none⟩=some (.slice none 0 0):=ceb x0
 have c1:w1.cell? ⟨w.heap.size,1,none⟩=some (.int .i64 0):=ceb x0
 have c2:w1.cell? ⟨w.heap.size+1,0,none⟩=some (.int .i64 0):=ceb x1
 have f0:w1.frozen? ⟨w.heap.size,0,none⟩=false:=frb x0
 have f1:w1.frozen? ⟨w.heap.size,1,none⟩=false:=frb x0
 have f2:w1.frozen? ⟨w.heap.size+1,0,none⟩=false:=frb x1
 refine leaves_cons (f:= 64) (args:=#[.pointer (some ⟨w.heap.size,0,none⟩),.pointer (some ⟨w.heap.size+1,0,none⟩)]) (by simp) (by simp[go_sem]) ?_
 refine(rp w.heap.size (nn:Nat) [] _ _ _ _ c0 c1 c2 f0 f1 f2).mono ?_
 rintro e u' w'' ⟨rfl,rfl,rfl⟩
 simp[Leaves,settle,results,Tryz.results25,go_sem,c0,c1,c2,f0,f1,f2]
 have bw:Below w.heap.size w w1:=HB0.o.trans (hb.mono (by simp;omega))
 exact⟨((bw.setCell (by simp) _).setCell (by simp) _).setCell (by simp) _,rfl⟩
theorem reSo{D:Nat→Nat→List Nat→Except Nat (List Nat)→Prop}{Q:World→Prop}(hD:DecBy D Q)(hQ:Q w){ao:Option Addr}{cap most:Nat}{data:List Nat}{xs:List (VT 12 × List Nat)}{root:Int}{res:Except Nat (List (VT 12))}(he:Env w.heap.size w)(hd:Dat w w.heap.size ao data)(byt:∀ i,i<data.length→nth data i<256)(len:data.length≤200000)(lc:data.length≤cap∧cap≤9223372036854775807)(ad:∃ bd o,ao=some ⟨bd,o,none⟩∧bd<w.heap.size)
  (hm:most≤1000000) (hdoc:Fo.document data=some (xs,root)) (his:Fo.isDoc (xs.map Prod.fst) root=true) (hfil:∀ x∈xs,∃ fs:List Fil,Node.filters (α:=VT 11) x.1=fs.map fun y=>y.1) (hpb:∀ x∈xs,∀ b∈x.2,b<256) (hU:UA D xs most res) :
  Calls Tryz.prog 25 #[.slice ao data.length cap,.int .i64 (most:Nat)] w (ReadS w res root):=by
 have hc:∀ W:World,Below w.heap.size w W→Calls Tryz.prog 66 #[.slice ao data.length cap,.int .i64 (most:Nat)] W (RdS W res root):=fun W b=>by
  have heW:Env w.heap.size W:=he.only (bs:=w.heap.size) (Nat.le_refl _) (Nat.le_refl _) (.of_below b)
  have h1:=b.size
  refine rSo hD (hD.keep _ _ hQ b) ⟨⟨heW.err.syn,heW.err.rng,heW.err.mx,Nat.lt_of_lt_of_le heW.err.ls h1,Nat.lt_of_lt_of_le heW.err.lr h1,Nat.lt_of_lt_of_le heW.err.lm h1⟩,heW.pow,Nat.lt_of_lt_of_le heW.lp h1⟩ (fun i hi=>?_) byt len lc ?_ hm hdoc his hfil hpb hU
  ·obtain⟨bd,o,e1,e2,e3⟩:=hd.other (fun g hg=>b.block g hg) i hi
   exact⟨bd,o,e1,by omega,e3⟩
  ·obtain⟨bd,o,e1,e2⟩:=ad
   exact⟨bd,o,e1,by omega⟩
 cases res with
 |error n=>exact rpN n ao cap data.length most hm len hc
 |ok Vs=>exact rer ao cap data.length most hm len Vs root hc
end
end Go.Proofs.YtgkljcmjnphpeaaGreatDoor
namespace Go
section
section
variable{P:Program}(w:World)
theorem wLasf{ops:Array Oper}{rest:List Oper}{o:Oper}{a:Act}{Q:Exit→Act→World→Prop}(hgd:o.guard=none)(sl x:Operand)(t u:TypeId)
  (ho:o.op=.call { callee:=.builtin .append,args:=#[sl,x],argTypes:=#[t,u] })
  (base:Nat) (e:TypeId) (i:TypeInfo) (ht:P.underlying t=some (.slice e)) (hu:P.underlying u=some .string) (hi:P.info? e=some i) (hz:i.zero=some (.int .u8 0))
  (hsize:i.size=1) (hby:i.bytes=1)
  (g n:Nat) (xs:List Value) (hs:a.eval sl=.slice (some ⟨g,0,none⟩) n n) (hxl:xs.length=n) (hxc:∀ j u,xs[j]?=some u→w.cell? ((⟨g,0,none⟩:Addr).add j)=some u) (s:ByteArray) (hx:a.eval x=.string s) (h0:0<s.size)
  (h63:n+s.size≤maxLen) (hbytes:n+s.size≤140737488355328) (hbase:base≤w.heap.size)
  (h:∀ v' w',w'.ownsRow base e 1 v' (n+s.size) (xs++Lib.strCells s)→w.grownBy w' none→(∀ g,v'.ownBlock=some g→w.heap.size≤g)→wpList P ops Q rest (a.put o.dst v') w'):wpList P ops Q (o::rest) a w:=by
 refine wpList_plain hgd fun K hK=>?_
 have hsmall:n+s.size≤9223372036854775807:=by simp only[maxLen]at h63;omega
 have hr:=Lib.run_append_grow_string (P:=P) w t u o.type e i (.int .u8 0) ht hu hi hz ⟨g,0,none⟩ n n xs (by rw[hsize];omega) hxc s (by omega) (by omega) (by rw[hby];exact growslice_fits (by omega) (by omega))
 have hlen:(xs++Lib.strCells s).length=(n+s.size)*1:=by rw[List.length_append,hxl,Lib.strCells_length,Nat.mul_one]
 have hge:=grownCap_ge w (n+s.size) n e
 have hcm:grownCap w (n+s.size) n e≤maxLen:=grownCap_le_maxLen w (n+s.size) n e h63
 unfold Oper.wp execOp
 simp only[ho,resolve,invoke,builtin,Sem.run_bind,Sem.run_pure,Result.andThen_ok,List.map_toArray,List.map_cons,List.map_nil,hs,hx,hr]
 refine hK _ _ (h _ _ ⟨hlen,.inr ⟨w.heap.size,_,_,rfl,hbase,heap_alloc_new w.drew _,hge,hcm,?_,?_⟩⟩ ⟨rfl,rfl,rfl,by simp,fun k hk _=>heap_alloc_old w.drew _ hk⟩ (fun g' hg'=>by simp[Value.ownBlock]at hg';omega))
 ·have hz1:(Value.int IntKind.u8 0).cells.size=1:=rfl
  simp only[Array.size_append,List.size_toArray,size_zeroCells,hz1,hxl,Lib.strCells_length]
  omega
 ·simp only[Array.toList_append,List.append_assoc]
  rw[←List.append_assoc,←hlen]
  exact List.take_left
end
end
end Go
