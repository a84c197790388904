import Derived.Test.YtgkljcmjnphpeaaGreatDoorK35
set_option linter.unusedVariables false
set_option linter.unusedSimpArgs false
set_option maxHeartbeats 4000000
set_option maxRecDepth 100000
namespace Go.Proofs.YtgkljcmjnphpeaaGreatDoor
open Go.RowKit
section
variable{w w':World}{B bf:Nat}{ov pv:Value}{out pl:List Nat}
theorem OutW.alloc(h:OutW B bf w ov pv out pl)(o:Obj):OutW B bf (w.alloc o) ov pv out pl:=⟨h.hb,bla _ h.blk,h.oo.alloc _,h.po.alloc _⟩
theorem wput1(h:OutW B bf w ov pv out pl)(S:ByteArray)(hlen:out.length+S.size≤500000000) :
  Calls Tryz.prog 96 #[.pointer (some ⟨bf,0,none⟩),.slice (some ⟨w.heap.size,0,none⟩) 1 1] (w.alloc (.cells #[.string S] 9)) fun e w'=>e=.returned (.tuple #[])∧∃ ov',OutW B bf w' ov' pv (out++bl S) pl∧OutK B bf w w':=by
 have:=wpo (texts:=[S]) (cap:=1) (h.alloc (.cells #[.string S] 9)) (bln w _) (fun i x hx=>by
  match i,hx with
  |0,hx=>cases hx;rfl
  |i+1,hx=>simp at hx) (by simp) (by decide) (by simp[flatB,bll];omega)
 refine this.mono ?_
 rintro e w' ⟨rfl,ov',h1,h2⟩
 refine⟨rfl,ov',?_,((OutK.refl B bf w).alloc _).trans h2⟩
 simpa[flatB]using h1
theorem wput2(h:OutW B bf w ov pv out pl)(S T:ByteArray)(hlen:out.length+(S.size+T.size)≤500000000) :
  Calls Tryz.prog 96 #[.pointer (some ⟨bf,0,none⟩),.slice (some ⟨w.heap.size,0,none⟩) 2 2] (w.alloc (.cells #[.string S,.string T] 9)) fun e w'=>e=.returned (.tuple #[])∧∃ ov',OutW B bf w' ov' pv (out++(bl S++bl T)) pl∧OutK B bf w w':=by
 have:=wpo (texts:=[S,T]) (cap:=2) (h.alloc (.cells #[.string S,.string T] 9)) (bln w _) (fun i x hx=>by
  match i,hx with
  |0,hx=>cases hx;rfl
  |1,hx=>cases hx;rfl
  |i+2,hx=>simp at hx) (by simp) (by decide) (by simp[flatB,bll];omega)
 refine this.mono ?_
 rintro e w' ⟨rfl,ov',h1,h2⟩
 refine⟨rfl,ov',?_,((OutK.refl B bf w).alloc _).trans h2⟩
 simpa[flatB]using h1
theorem wput3(h:OutW B bf w ov pv out pl)(S T U:ByteArray)(hlen:out.length+(S.size+(T.size+U.size))≤500000000) :
  Calls Tryz.prog 96 #[.pointer (some ⟨bf,0,none⟩),.slice (some ⟨w.heap.size,0,none⟩) 3 3] (w.alloc (.cells #[.string S,.string T,.string U] 9)) fun e w'=>e=.returned (.tuple #[])∧∃ ov',OutW B bf w' ov' pv (out++(bl S++(bl T++bl U))) pl∧OutK B bf w w':=by
 have:=wpo (texts:=[S,T,U]) (cap:=3) (h.alloc (.cells #[.string S,.string T,.string U] 9)) (bln w _) (fun i x hx=>by
  match i,hx with
  |0,hx=>cases hx;rfl
  |1,hx=>cases hx;rfl
  |2,hx=>cases hx;rfl
  |i+3,hx=>simp at hx) (by simp) (by decide) (by simp[flatB,bll];omega)
 refine this.mono ?_
 rintro e w' ⟨rfl,ov',h1,h2⟩
 refine⟨rfl,ov',?_,((OutK.refl B bf w).alloc _).trans h2⟩
 simpa[flatB]using h1
theorem OutW.set{W:World}{x v:Value}{o2:List Nat}(h:OutW B bf w ov pv out pl)(k:OutK B bf w W)(hW:W.heap[bf]?=some (.cells #[x,pv] 122 (0,0)))(hwh:∀ g,v.ownBlock=some g→x.ownBlock=some g∨w.heap.size≤g)(hv:W.ownsRow B 5 1 v o2.length (byv o2)) :
  OutW B bf (W.setCell ⟨bf,0,none⟩ v) v pv o2 pl∧OutK B bf w (W.setCell ⟨bf,0,none⟩ v):=by
 have ks:OutK B bf w (W.setCell ⟨bf,0,none⟩ v):=k.setV hW hwh
 have hb2:(W.setCell ⟨bf,0,none⟩ v).heap[bf]?=some (.cells #[v,pv] 122 (0,0)):=by rw[bsC _ hW];rfl
 refine⟨⟨h.hb,hb2,?_,?_⟩,ks⟩
 ·obtain⟨h1,h2⟩:=hv
  refine⟨h1,?_⟩
  rcases h2 with h2 | ⟨g,c,cur,e1,e2,hh,hc⟩
  ·exact Or.inl h2
  ·refine Or.inr ⟨g,c,cur,e1,e2,?_,hc⟩
   rw[bsCn _ (by show g≠bf;rintro rfl;rw[hW]at hh;simp at hh)]
   exact hh
 ·refine owk h.po ks.toKept (by decide) (fun g hg2 hm2=>?_)
  simp at hm2
  subst hm2
  obtain⟨_,c,f,hc⟩:=owr h.po g hg2
  rw[h.blk]at hc
  simp at hc
theorem newsY{w:World}{a:Nat}:∀(j:Nat) (u:Value),(byv [a])[j]?=some u→(w.alloc (.cells #[.int .u8 (a:Nat)] 5)).cell? ((⟨w.heap.size,0,none⟩:Addr).add j)=some u:=by
 intro j u h
 match j,h with
 |0,h=>cases h;rw[aa,ceb (bln w _)];rfl
 |j+1,h=>simp[byv]at h
theorem bas{w:World}{g:Nat}{o:Obj}(h:g<w.heap.size):(w.alloc o).heap[g]?=w.heap[g]?:=by
 obtain⟨x,hx⟩:∃ x,w.heap[g]?=some x:=⟨_,Array.getElem?_eq_getElem h⟩
 rw[hx]
 exact bla _ hx
theorem aHw(v:Value)(xs:List Nat)(hown:w.ownsRow B 5 1 v xs.length (xs.map fun x:Nat=>.int .u8 (x:Int)))(hB:B≤w.heap.size)(hn:xs.length≤1000000000)(b:Nat)(hb:b<256) :
  Calls Tryz.prog 143 #[v,.int .u8 b] w fun e w'=>∃ v' ob,e=.returned v'∧w'.ownsRow B 5 1 v' (xs.length+2) ((xs.map fun x:Nat=>.int .u8 (x:Int))++([Fo.hexDig (b/16),Fo.hexDig (b%16)].map fun x:Nat=>.int .u8 (x:Int)))∧(w.alloc ob).grownBy w' v.ownBlock∧(∀ g,v'.ownBlock=some g→v.ownBlock=some g∨w.heap.size≤g):=by
 obtain⟨i0,hi,hz0,hz1,hz2⟩:=info_parts Tryz.infoByte
 have g1:0≤(b:Int)/16:=by omega
 have g2:(b:Int)/16<16:=by omega
 have g3:bits .and .u8 (b:Int) 15=((b%16:Nat):Int):=by
  have:=u8_and_nat b 15 hb (by omega)
  rw[nat_mask4]at this;exact this
 have g4:(b:Int)%16<16:=by omega
 have g5:0≤(b:Int)%16:=by omega
 have e1:((b:Int)/16).toNat=b/16:=by omega
 have e2:((b:Int)%16).toNat=b%16:=by omega
 have E1:=hide e1
 have E2:=hide e2
 clear e1 e2
 go_enter Tryz.func143,Tryz.ntmps143
 go_wp2_with fail
 go_region_law (refine saw rfl (.tmp 5) (.tmp 12) 23 rfl B 5 i0 (.int .u8 0) 1 1 Tryz.underlying23 hi hz0 hz1 hz2 rfl (by decide) v xs.length _ rfl (World.ownsRow.drew (hown.alloc _)) ⟨w.heap.size,0,none⟩ 2 2 ([Fo.hexDig (b/16),Fo.hexDig (b%16)].map fun x:Nat=>.int .u8 (x:Int)) rfl (by simp) ?hnews ?hone ?h63 ?hby ?hb ?_;(case hnews=>refine heN ?_ ?_<;>simp only[E1.o,E2.o]<;>exact congrArg _ (hexLit _ (by omega) _));(case hone=>intro u hu;simp at hu;rcases hu with rfl | rfl<;>rfl);(case h63=>unfold maxLen;omega);(case hby=>omega);(case hb=>simp;omega);intro v' w1 hown1 hg1 hw1)
 all_goals (clear hown)
 all_goals go_wp2
 all_goals go_ret
 all_goals exact⟨v',_,rfl,hown1,⟨hg1.os,hg1.tape,hg1.output,hg1.size,hg1.block⟩,fun g hg=>(hw1 g hg).imp id (fun z=>Nat.le_trans (by simp) z)⟩
namespace Fo
def wnameB(b:Nat):List Nat:=if iN b=true∧b≠35 then[b]else[35,hexDig (b/16),hexDig (b%16)]
def wname(l:List Nat):List Nat:=47::l.flatMap wnameB
theorem wnameB_len(b:Nat):(wnameB b).length≤3:=by unfold wnameB;split<;>simp
end Fo
theorem wno(h:OutW B bf w ov pv out pl)(S:ByteArray)(hlen:out.length+3*S.size+1≤500000000) :
  Calls Tryz.prog 182 #[.pointer (some ⟨bf,0,none⟩),.string S] w fun e w'=>e=.returned (.tuple #[])∧∃ ov',OutW B bf w' ov' pv (out++Fo.wname (bl S)) pl∧OutK B bf w w':=by
 obtain⟨i1,gi,gz0,gz1,gz2⟩:=info_parts Tryz.infoByte
 have HP:=hide (wput1 h { data:=#[47] } (by show out.length+1≤_;omega))
 have HS:Hid (∀ i,i<S.size→∃ hi:i<S.size,(S[i]'hi).toNat=nth (bl S) i):=fun i hi=>⟨hi,bn_ S i hi⟩
 obtain⟨n,hn⟩:∃ n,S.size=n:=⟨_,rfl⟩
 have HN:=hide hn
 have hn2:n≤500000000:=by omega
 clear h
 go_enter Tryz.func182,Tryz.ntmps182
 go_wp2_with fail
 refine HP.o.mono ?_
 rintro e w1 ⟨rfl,ov1,h1,k1⟩
 have H1:=hide h1
 have K1:=hide k1
 clear h1 k1 HP
 go_wp2_with fail
 go_loopw [4,5,11] (fun _ _ iv wr=>∃(m:Nat) (v:Value),m≤n∧iv=.int .i64 (m:Int)∧Hid (OutW B bf wr v pv (out++Fo.wname ((bl S).take m)) pl)∧Hid (OutK B bf w wr)) (fun _ _ iv _=>n-(intOf iv).toNat)
 case atStart=>exact⟨0,ov1,Nat.zero_le _,rfl,H1.o,K1.o⟩
 case round =>
  obtain⟨m,v,hm,rfl,HW,HK⟩:=hrel
  rcases Nat.eq_or_lt_of_le hm with hm | hm
  ·subst hm
   go_wp2
   go_end0
   refine⟨rfl,v,?_,HK.o⟩
   have:=HW.o
   rw[show(bl S).take m=bl S from List.take_of_length_le (by rw[bll,HN.o];exact Nat.le_refl _)]at this
   exact this
  ·obtain⟨hi,hb⟩:=HS.o m (by omega)
   have hx:(bl S)[m]?=some (nth (bl S) m):=by simp[nth,List.getElem?_eq_getElem (show m<(bl S).length by rw[bll];omega)]
   have htk:Fo.wname ((bl S).take (m+1))=Fo.wname ((bl S).take m)++Fo.wnameB (nth (bl S) m):=by
    unfold Fo.wname
    rw[List.take_add_one,hx,List.flatMap_append]
    simp
   have hb256:=bl_lt S m hi
   have hln:(out++Fo.wname ((bl S).take m)).length+3≤500000000:=by
    have:∀ l:List Nat,(Fo.wname l).length≤3*l.length+1:=fun l=>by
     unfold Fo.wname
     induction l with
     |nil=>simp
     |cons a l ih =>
      have:=Fo.wnameB_len a
      simp only[List.flatMap_cons,List.length_cons,List.length_append]at ih ⊢
      omega
    have h2:=this ((bl S).take m)
    rw[List.length_take,bll]at h2
    rw[List.length_append]
    omega
   obtain⟨va,vc,rfl⟩:=ows HW.o.oo
   have hblk:=HW.o.blk
   have HTK:=hide htk
   generalize hou:out++Fo.wname ((bl S).take m)=o1 at *
   have HOU:=hide hou
   clear hou htk hx
   generalize nth (bl S) m=b at *
   have hB:=HW.o.bw
   have c0:wr.cell? ⟨bf,0,none⟩=some (.slice va o1.length vc):=ceb hblk
   have f0:wr.frozen? ⟨bf,0,none⟩=false:=frb hblk
   by_cases hin:iN b=true∧b≠35
   ·have t2:((b:Int) != 35)=true:=by simp;omega
    have HI:=hide (iNo b)
    rw[hin.1]at HI
    have HWB:Hid (Fo.wnameB b=[b]):=by unfold Hid Fo.wnameB;rw[if_pos hin]
    clear hin
    go_wp2_with fail
    refine(HI.o _).mono ?_
    rintro e w' ⟨rfl,hw⟩
    have hw:=hw.symm
    subst hw
    go_wp2_with (at_builtin;refine Go.wpList_append_where _ rfl (.tmp 27) (.tmp 29) 23 rfl B 5 i1 (.int .u8 0) 1 1 Tryz.underlying23 gi gz0 gz1 gz2 rfl (by decide) _ o1.length _ rfl (HW.o.oo.alloc _) ⟨wr.heap.size,0,none⟩ 1 1 (byv [b]) rfl rfl ?hnews ?hone ?h63 ?hby ?hbs ?_)
    case hnews=>exact newsY
    case hone=>intro u hu;simp[byv]at hu;subst hu;rfl
    case h63=>unfold maxLen;omega
    case hby=>omega
    case hbs=>simp;omega
    intro v6 w6 own6 hg6 hw6
    have hb6:w6.heap[bf]?=some (.cells #[.slice va o1.length vc,pv] 122 (0,0)):=by rw[hg6.block bf (by simp;have:=HW.o.lt;omega) (fun e=>HW.o.ne bf e.symm rfl)];exact bla _ hblk
    have HG:=hide (HW.o.grow ((OutK.refl B bf wr).alloc _) (bas HW.o.lt) (HW.o.oo.alloc _) hg6 (fun g hg=>(hw6 g hg).imp id (fun z=>by omega)) own6 rfl)
    obtain⟨va6,vc6,hv6⟩:=ows own6
    subst hv6
    have c6:w6.cell? ⟨bf,0,none⟩=some (.slice va o1.length vc):=ceb hb6
    have f6:w6.frozen? ⟨bf,0,none⟩=false:=frb hb6
    clear own6 hg6 hw6 hb6 hblk
    go_wp2
    go_roundw
    case rel=>exact⟨m+1,_,by omega,by first | rfl | (congr 1),by rw[HTK.o,←List.append_assoc,HOU.o,HWB.o];exact HG.o.1,HK.o.trans HG.o.2⟩
    case measure=>simp[intOf];omega
   ·have HWB:Hid (Fo.wnameB b=[35,Fo.hexDig (b/16),Fo.hexDig (b%16)]):=by unfold Hid Fo.wnameB;rw[if_neg hin]
    have HI:=hide (iNo b)
    cases hni:iN b with
    |false =>
     rw[hni]at HI
     clear hni
     clear hin
     go_wp2_with fail
     refine(HI.o _).mono ?_
     rintro e w' ⟨rfl,hw⟩
     have hw:=hw.symm
     subst hw
     go_wp2_with (at_builtin;refine Go.wpList_append_where _ rfl (.tmp 37) (.tmp 38) 23 rfl B 5 i1 (.int .u8 0) 1 1 Tryz.underlying23 gi gz0 gz1 gz2 rfl (by decide) _ o1.length _ rfl (HW.o.oo.alloc _) ⟨wr.heap.size,0,none⟩ 1 1 (byv [35]) rfl rfl ?hnews ?hone ?h63 ?hby ?hbs ?_)
     case hnews=>exact newsY
     case hone=>intro u hu;simp[byv]at hu;subst hu;rfl
     case h63=>unfold maxLen;omega
     case hby=>omega
     case hbs=>simp;omega
     intro v6 w6 own6 hg6 hw6
     have hb6:w6.heap[bf]?=some (.cells #[.slice va o1.length vc,pv] 122 (0,0)):=by rw[hg6.block bf (by simp;have:=HW.o.lt;omega) (fun e=>HW.o.ne bf e.symm rfl)];exact bla _ hblk
     have k6:OutK B bf wr w6:=((OutK.refl B bf wr).alloc _).grown (bla _ hblk) hg6 (owr (HW.o.oo.alloc _)) (fun e=>HW.o.ne bf e rfl) (fun g e=>Or.inl e)
     have own6b:w6.ownsRow B 5 1 v6 (o1++[35]).length ((o1++[35]).map fun x:Nat=>.int .u8 (x:Int)):=by
      rw[List.length_append,List.map_append];exact own6
     have hs6:B≤w6.heap.size:=Nat.le_trans hB k6.size
     have HAH:=hide (aHw v6 (o1++[35]) own6b hs6 (by rw[List.length_append];simp;omega) b hb256)
     obtain⟨va6,vc6,hv6⟩:=ows own6
     subst hv6
     have HO6:Hid (∀ ob:Obj,∀ g,(Value.slice va6 (o1.length+1) vc6).ownBlock=some g→B≤g∧∃ cur fz,(w6.alloc ob).heap[g]?=some (.cells cur 5 fz)):=fun ob=>owr (own6.alloc ob)
     have HB6:=hide hb6
     have K6:=hide k6
     have HW6:=hide hw6
     clear own6 own6b hg6 hb6 k6 hw6
     go_wp2_with fail
     refine HAH.o.mono ?_
     rintro e w7 ⟨v7,ob,rfl,own7,hg7,hw7⟩
     have hb6a:=bla ob HB6.o
     have hne7:(Value.slice va6 (o1.length+1) vc6).ownBlock≠some bf:=fun e=>by
      rcases HW6.o bf e with h | h
      ·exact HW.o.ne bf h rfl
      ·have:=HW.o.lt;omega
     have hb7:w7.heap[bf]?=some (.cells #[.slice va o1.length vc,pv] 122 (0,0)):=by rw[hg7.block bf (lt_of_block hb6a) (fun e=>hne7 e.symm)];exact hb6a
     have own7b:w7.ownsRow B 5 1 v7 (o1++Fo.wnameB b).length (byv (o1++Fo.wnameB b)):=by
      rw[HWB.o]
      have:o1++[35,Fo.hexDig (b/16),Fo.hexDig (b%16)]=(o1++[35])++[Fo.hexDig (b/16),Fo.hexDig (b%16)]:=by simp
      have hl3:((o1++[35])++[Fo.hexDig (b/16),Fo.hexDig (b%16)]).length=(o1++[35]).length+2:=by rw[List.length_append];rfl
      rw[this,hl3]
      unfold byv
      rw[List.map_append]
      exact own7
     have hwx:∀ g,(Value.slice va6 (o1.length+1) vc6).ownBlock=some g→(Value.slice va o1.length vc).ownBlock=some g∨wr.heap.size≤g:=fun g hg=>(HW6.o g hg).imp id (fun z=>by omega)
     have k7:=(K6.o.alloc ob).grown hb6a hg7 (HO6.o ob) hne7 hwx
     have HG:=hide (HW.o.set k7 hb7 (fun g hg=>by
      rcases hw7 g hg with h | h
      ·exact hwx g h
      ·exact Or.inr (Nat.le_trans K6.o.size h)) own7b)
     obtain⟨va7,vc7,hv7⟩:=ows own7
     generalize (o1++[35]).length+2=n7 at hv7
     subst hv7
     have c6:w7.cell? ⟨bf,0,none⟩=some (.slice va o1.length vc):=ceb hb7
     have f6:w7.frozen? ⟨bf,0,none⟩=false:=frb hb7
     clear own7 own7b hb7 k7 hblk hg7 hw7 hwx hne7 hb6a
     go_wp2
     go_roundw
     case rel=>exact⟨m+1,_,by omega,by first | rfl | (congr 1),by rw[HTK.o,←List.append_assoc,HOU.o];exact HG.o.1,HK.o.trans HG.o.2⟩
     case measure=>simp[intOf];omega
    |true =>
     have t2:((b:Int) != 35)=false:=by
      have:b=35:=Classical.byContradiction fun h=>hin ⟨hni,h⟩
      subst this
      rfl
     rw[hni]at HI
     clear hni
     clear hin
     go_wp2_with fail
     refine(HI.o _).mono ?_
     rintro e w' ⟨rfl,hw⟩
     have hw:=hw.symm
     subst hw
     go_wp2_with (at_builtin;refine Go.wpList_append_where _ rfl (.tmp 37) (.tmp 38) 23 rfl B 5 i1 (.int .u8 0) 1 1 Tryz.underlying23 gi gz0 gz1 gz2 rfl (by decide) _ o1.length _ rfl (HW.o.oo.alloc _) ⟨wr.heap.size,0,none⟩ 1 1 (byv [35]) rfl rfl ?hnews ?hone ?h63 ?hby ?hbs ?_)
     case hnews=>exact newsY
     case hone=>intro u hu;simp[byv]at hu;subst hu;rfl
     case h63=>unfold maxLen;omega
     case hby=>omega
     case hbs=>simp;omega
     intro v6 w6 own6 hg6 hw6
     have hb6:w6.heap[bf]?=some (.cells #[.slice va o1.length vc,pv] 122 (0,0)):=by rw[hg6.block bf (by simp;have:=HW.o.lt;omega) (fun e=>HW.o.ne bf e.symm rfl)];exact bla _ hblk
     have k6:OutK B bf wr w6:=((OutK.refl B bf wr).alloc _).grown (bla _ hblk) hg6 (owr (HW.o.oo.alloc _)) (fun e=>HW.o.ne bf e rfl) (fun g e=>Or.inl e)
     have own6b:w6.ownsRow B 5 1 v6 (o1++[35]).length ((o1++[35]).map fun x:Nat=>.int .u8 (x:Int)):=by
      rw[List.length_append,List.map_append];exact own6
     have hs6:B≤w6.heap.size:=Nat.le_trans hB k6.size
     have HAH:=hide (aHw v6 (o1++[35]) own6b hs6 (by rw[List.length_append];simp;omega) b hb256)
     obtain⟨va6,vc6,hv6⟩:=ows own6
     subst hv6
     have HO6:Hid (∀ ob:Obj,∀ g,(Value.slice va6 (o1.length+1) vc6).ownBlock=some g→B≤g∧∃ cur fz,(w6.alloc ob).heap[g]?=some (.cells cur 5 fz)):=fun ob=>owr (own6.alloc ob)
     have HB6:=hide hb6
     have K6:=hide k6
     have HW6:=hide hw6
     clear own6 own6b hg6 hb6 k6 hw6
     go_wp2_with fail
     refine HAH.o.mono ?_
     rintro e w7 ⟨v7,ob,rfl,own7,hg7,hw7⟩
     have hb6a:=bla ob HB6.o
     have hne7:(Value.slice va6 (o1.length+1) vc6).ownBlock≠some bf:=fun e=>by
      rcases HW6.o bf e with h | h
      ·exact HW.o.ne bf h rfl
      ·have:=HW.o.lt;omega
     have hb7:w7.heap[bf]?=some (.cells #[.slice va o1.length vc,pv] 122 (0,0)):=by rw[hg7.block bf (lt_of_block hb6a) (fun e=>hne7 e.symm)];exact hb6a
     have own7b:w7.ownsRow B 5 1 v7 (o1++Fo.wnameB b).length (byv (o1++Fo.wnameB b)):=by
      rw[HWB.o]
      have:o1++[35,Fo.hexDig (b/16),Fo.hexDig (b%16)]=(o1++[35])++[Fo.hexDig (b/16),Fo.hexDig (b%16)]:=by simp
      have hl3:((o1++[35])++[Fo.hexDig (b/16),Fo.hexDig (b%16)]).length=(o1++[35]).length+2:=by rw[List.length_append];rfl
      rw[this,hl3]
      unfold byv
      rw[List.map_append]
      exact own7
     have hwx:∀ g,(Value.slice va6 (o1.length+1) vc6).ownBlock=some g→(Value.slice va o1.length vc).ownBlock=some g∨wr.heap.size≤g:=fun g hg=>(HW6.o g hg).imp id (fun z=>by omega)
     have k7:=(K6.o.alloc ob).grown hb6a hg7 (HO6.o ob) hne7 hwx
     have HG:=hide (HW.o.set k7 hb7 (fun g hg=>by
      rcases hw7 g hg with h | h
      ·exact hwx g h
      ·exact Or.inr (Nat.le_trans K6.o.size h)) own7b)
     obtain⟨va7,vc7,hv7⟩:=ows own7
     generalize (o1++[35]).length+2=n7 at hv7
     subst hv7
     have c6:w7.cell? ⟨bf,0,none⟩=some (.slice va o1.length vc):=ceb hb7
     have f6:w7.frozen? ⟨bf,0,none⟩=false:=frb hb7
     clear own7 own7b hb7 k7 hblk hg7 hw7 hwx hne7 hb6a
     go_wp2
     go_roundw
     case rel=>exact⟨m+1,_,by omega,by first | rfl | (congr 1),by rw[HTK.o,←List.append_assoc,HOU.o];exact HG.o.1,HK.o.trans HG.o.2⟩
     case measure=>simp[intOf];omega
namespace Fo
def wquoB(b:Nat):List Nat:=if b=40∨b=41∨b=92 then[92,b]else if 32≤b∧b≤126 then[b]else[92,48+b/64,48+b/8%8,48+b%8]
def wquo(l:List Nat):List Nat:=40::l.flatMap wquoB
def wquoted(l:List Nat):List Nat:=wquo l++[41]
theorem wquoB_len(b:Nat):(wquoB b).length≤4:=by
 unfold wquoB;split;· simp
 ·split<;>simp
end Fo
theorem nY{w:World}{a b:Nat}:∀(j:Nat) (u:Value),(byv [a,b])[j]?=some u→(w.alloc (.cells #[.int .u8 (a:Nat),.int .u8 (b:Nat)] 5)).cell? ((⟨w.heap.size,0,none⟩:Addr).add j)=some u:=by
 intro j u h
 match j,h with
 |0,h=>cases h;rw[aa,ceb (bln w _)];rfl
 |1,h=>cases h;rw[aa,ceb (bln w _)];rfl
 |j+2,h=>simp[byv]at h
theorem news4Y{w:World}{a b c d:Nat}{x y z t:Int}(ex:x=a)(ey:y=b)(ez:z=c)(et:t=d):∀(j:Nat) (u:Value),(byv [a,b,c,d])[j]?=some u→(w.alloc (.cells #[.int .u8 x,.int .u8 y,.int .u8 z,.int .u8 t] 5)).cell? ((⟨w.heap.size,0,none⟩:Addr).add j)=some u:=by
 subst ex ey ez et
 intro j u h
 match j,h with
 |0,h=>cases h;rw[aa,ceb (bln w _)];rfl
 |1,h=>cases h;rw[aa,ceb (bln w _)];rfl
 |2,h=>cases h;rw[aa,ceb (bln w _)];rfl
 |3,h=>cases h;rw[aa,ceb (bln w _)];rfl
 |j+4,h=>simp[byv]at h
theorem wqo(h:OutW B bf w ov pv out pl)(S:ByteArray)(hlen:out.length+4*S.size+2≤500000000) :
  Calls Tryz.prog 183 #[.pointer (some ⟨bf,0,none⟩),.string S] w fun e w'=>e=.returned (.tuple #[])∧∃ ov',OutW B bf w' ov' pv (out++Fo.wquoted (bl S)) pl∧OutK B bf w w':=by
 obtain⟨i1,gi,gz0,gz1,gz2⟩:=info_parts Tryz.infoByte
 have HP:=hide (wput1 h { data:=#[40] } (by show out.length+1≤_;omega))
 have HS:Hid (∀ i,i<S.size→∃ hi:i<S.size,(S[i]'hi).toNat=nth (bl S) i):=fun i hi=>⟨hi,bn_ S i hi⟩
 have HLN:Hid (∀ m,(Fo.wquo ((bl S).take m)).length≤4*m+1):=fun m=>by
  have:∀ l:List Nat,(Fo.wquo l).length≤4*l.length+1:=fun l=>by
   unfold Fo.wquo
   induction l with
   |nil=>simp
   |cons a l ih =>
    have:=Fo.wquoB_len a
    simp only[List.flatMap_cons,List.length_cons,List.length_append]at ih ⊢
    omega
  have h2:=this ((bl S).take m)
  rw[List.length_take]at h2
  omega
 obtain⟨n,hn⟩:∃ n,S.size=n:=⟨_,rfl⟩
 have HN:=hide hn
 have hn2:n≤500000000:=by omega
 clear h
 go_enter Tryz.func183,Tryz.ntmps183
 go_wp2_with fail
 refine HP.o.mono ?_
 rintro e w1 ⟨rfl,ov1,h1,k1⟩
 have H1:=hide h1
 have K1:=hide k1
 clear h1 k1 HP
 go_wp2_with fail
 go_loopw [4,5,11,36,57] (fun _ _ iv _ _ wr=>∃(m:Nat) (v:Value),m≤n∧iv=.int .i64 (m:Int)∧Hid (OutW B bf wr v pv (out++Fo.wquo ((bl S).take m)) pl)∧Hid (OutK B bf w wr)) (fun _ _ iv _ _ _=>n-(intOf iv).toNat)
 case atStart=>exact⟨0,ov1,Nat.zero_le _,rfl,H1.o,K1.o⟩
 case round =>
  obtain⟨m,v,hm,rfl,HW,HK⟩:=hrel
  rcases Nat.eq_or_lt_of_le hm with hm | hm
  ·subst hm
   have hlm:=HLN.o m
   have HP2:=hide (wput1 HW.o { data:=#[41] } (by rw[List.length_append];show _+1≤_;omega))
   rw[show(bl S).take m=bl S from List.take_of_length_le (by rw[bll,HN.o];exact Nat.le_refl _),List.append_assoc]at HP2
   go_wp2_with fail
   refine HP2.o.mono ?_
   rintro e w9 ⟨rfl,ov9,h9,k9⟩
   have H9:=hide h9
   have K9:=hide (HK.o.trans k9)
   clear h9 k9 HP2
   go_wp2
   go_end0
   exact⟨rfl,ov9,H9.o,K9.o⟩
  ·obtain⟨hi,hb⟩:=HS.o m (by omega)
   have hx:(bl S)[m]?=some (nth (bl S) m):=by simp[nth,List.getElem?_eq_getElem (show m<(bl S).length by rw[bll];omega)]
   have htk:Fo.wquo ((bl S).take (m+1))=Fo.wquo ((bl S).take m)++Fo.wquoB (nth (bl S) m):=by
    unfold Fo.wquo
    rw[List.take_add_one,hx,List.flatMap_append]
    simp
   have hb256:=bl_lt S m hi
   have hln:(out++Fo.wquo ((bl S).take m)).length+4≤500000000:=by
    have h2:=HLN.o m
    rw[List.length_append]
    omega
   obtain⟨va,vc,rfl⟩:=ows HW.o.oo
   have hblk:=HW.o.blk
   have HTK:=hide htk
   generalize hou:out++Fo.wquo ((bl S).take m)=o1 at *
   have HOU:=hide hou
   clear hou htk hx
   generalize nth (bl S) m=b at *
   have hB:=HW.o.bw
   have c0:wr.cell? ⟨bf,0,none⟩=some (.slice va o1.length vc):=ceb hblk
   have f0:wr.frozen? ⟨bf,0,none⟩=false:=frb hblk
   by_cases h3:b=40∨b=41∨b=92
   ·have HWB:Hid (Fo.wquoB b=[92,b]):=by unfold Hid Fo.wquoB;rw[if_pos h3]
    rcases h3 with h3 | h3 | h3
    ·have t1:((b:Int)==40)=true:=by simp;omega
     clear h3
     go_wp2_with (at_builtin;refine Go.wpList_append_where _ rfl (.tmp 51) (.tmp 53) 23 rfl B 5 i1 (.int .u8 0) 1 1 Tryz.underlying23 gi gz0 gz1 gz2 rfl (by decide) _ o1.length _ rfl (HW.o.oo.alloc _) ⟨wr.heap.size,0,none⟩ 2 2 (byv [92,b]) rfl rfl ?hnews ?hone ?h63 ?hby ?hbs ?_)
     case hnews=>exact nY
     case hone=>intro u hu;simp[byv]at hu;rcases hu with rfl | rfl<;>rfl
     case h63=>unfold maxLen;omega
     case hby=>omega
     case hbs=>simp;omega
     intro v6 w6 own6 hg6 hw6
     have hb6:w6.heap[bf]?=some (.cells #[.slice va o1.length vc,pv] 122 (0,0)):=by rw[hg6.block bf (by simp;have:=HW.o.lt;omega) (fun e=>HW.o.ne bf e.symm rfl)];exact bla _ hblk
     have HG:=hide (HW.o.grow ((OutK.refl B bf wr).alloc _) (bas HW.o.lt) (HW.o.oo.alloc _) hg6 (fun g hg=>(hw6 g hg).imp id (fun z=>by omega)) own6 rfl)
     obtain⟨va6,vc6,hv6⟩:=ows own6
     subst hv6
     have c6:w6.cell? ⟨bf,0,none⟩=some (.slice va o1.length vc):=ceb hb6
     have f6:w6.frozen? ⟨bf,0,none⟩=false:=frb hb6
     clear own6 hg6 hw6 hb6 hblk
     go_wp2
     go_roundw
     case rel=>exact⟨m+1,_,by omega,by first | rfl | (congr 1),by rw[HTK.o,←List.append_assoc,HOU.o,HWB.o];exact HG.o.1,HK.o.trans HG.o.2⟩
     case measure=>simp[intOf];omega
    ·have t1:((b:Int)==40)=false:=by simp;omega
     have t2:((b:Int)==41)=true:=by simp;omega
     clear h3
     go_wp2_with (at_builtin;refine Go.wpList_append_where _ rfl (.tmp 51) (.tmp 53) 23 rfl B 5 i1 (.int .u8 0) 1 1 Tryz.underlying23 gi gz0 gz1 gz2 rfl (by decide) _ o1.length _ rfl (HW.o.oo.alloc _) ⟨wr.heap.size,0,none⟩ 2 2 (byv [92,b]) rfl rfl ?hnews ?hone ?h63 ?hby ?hbs ?_)
     case hnews=>exact nY
     case hone=>intro u hu;simp[byv]at hu;rcases hu with rfl | rfl<;>rfl
     case h63=>unfold maxLen;omega
     case hby=>omega
     case hbs=>simp;omega
     intro v6 w6 own6 hg6 hw6
     have hb6:w6.heap[bf]?=some (.cells #[.slice va o1.length vc,pv] 122 (0,0)):=by rw[hg6.block bf (by simp;have:=HW.o.lt;omega) (fun e=>HW.o.ne bf e.symm rfl)];exact bla _ hblk
     have HG:=hide (HW.o.grow ((OutK.refl B bf wr).alloc _) (bas HW.o.lt) (HW.o.oo.alloc _) hg6 (fun g hg=>(hw6 g hg).imp id (fun z=>by omega)) own6 rfl)
     obtain⟨va6,vc6,hv6⟩:=ows own6
     subst hv6
     have c6:w6.cell? ⟨bf,0,none⟩=some (.slice va o1.length vc):=ceb hb6
     have f6:w6.frozen? ⟨bf,0,none⟩=false:=frb hb6
     clear own6 hg6 hw6 hb6 hblk
     go_wp2
     go_roundw
     case rel=>exact⟨m+1,_,by omega,by first | rfl | (congr 1),by rw[HTK.o,←List.append_assoc,HOU.o,HWB.o];exact HG.o.1,HK.o.trans HG.o.2⟩
     case measure=>simp[intOf];omega
    ·have t1:((b:Int)==40)=false:=by simp;omega
     have t2:((b:Int)==41)=false:=by simp;omega
     have t3:((b:Int)==92)=true:=by simp;omega
     clear h3
     go_wp2_with (at_builtin;refine Go.wpList_append_where _ rfl (.tmp 51) (.tmp 53) 23 rfl B 5 i1 (.int .u8 0) 1 1 Tryz.underlying23 gi gz0 gz1 gz2 rfl (by decide) _ o1.length _ rfl (HW.o.oo.alloc _) ⟨wr.heap.size,0,none⟩ 2 2 (byv [92,b]) rfl rfl ?hnews ?hone ?h63 ?hby ?hbs ?_)
     case hnews=>exact nY
     case hone=>intro u hu;simp[byv]at hu;rcases hu with rfl | rfl<;>rfl
     case h63=>unfold maxLen;omega
     case hby=>omega
     case hbs=>simp;omega
     intro v6 w6 own6 hg6 hw6
     have hb6:w6.heap[bf]?=some (.cells #[.slice va o1.length vc,pv] 122 (0,0)):=by rw[hg6.block bf (by simp;have:=HW.o.lt;omega) (fun e=>HW.o.ne bf e.symm rfl)];exact bla _ hblk
     have HG:=hide (HW.o.grow ((OutK.refl B bf wr).alloc _) (bas HW.o.lt) (HW.o.oo.alloc _) hg6 (fun g hg=>(hw6 g hg).imp id (fun z=>by omega)) own6 rfl)
     obtain⟨va6,vc6,hv6⟩:=ows own6
     subst hv6
     have c6:w6.cell? ⟨bf,0,none⟩=some (.slice va o1.length vc):=ceb hb6
     have f6:w6.frozen? ⟨bf,0,none⟩=false:=frb hb6
     clear own6 hg6 hw6 hb6 hblk
     go_wp2
     go_roundw
     case rel=>exact⟨m+1,_,by omega,by first | rfl | (congr 1),by rw[HTK.o,←List.append_assoc,HOU.o,HWB.o];exact HG.o.1,HK.o.trans HG.o.2⟩
     case measure=>simp[intOf];omega
   ·have t1:((b:Int)==40)=false:=by simp;omega
    have t2:((b:Int)==41)=false:=by simp;omega
    have t3:((b:Int)==92)=false:=by simp;omega
    by_cases h4:32≤b∧b≤126
    ·have HWB:Hid (Fo.wquoB b=[b]):=by unfold Hid Fo.wquoB;rw[if_neg h3,if_pos h4]
     have HWI:=hide (fun W=>wby (b:Int) 32 126 W (by omega) (by omega))
     clear h3 h4
     go_wp2_with fail
     refine(HWI.o _).mono ?_
     rintro e w' ⟨rfl,hw⟩
     have hw:=hw.symm
     subst hw
     go_wp2_with (at_builtin;refine Go.wpList_append_where _ rfl (.tmp 64) (.tmp 66) 23 rfl B 5 i1 (.int .u8 0) 1 1 Tryz.underlying23 gi gz0 gz1 gz2 rfl (by decide) _ o1.length _ rfl (HW.o.oo.alloc _) ⟨wr.heap.size,0,none⟩ 1 1 (byv [b]) rfl rfl ?hnews ?hone ?h63 ?hby ?hbs ?_)
     case hnews=>exact newsY
     case hone=>intro u hu;simp[byv]at hu;subst hu;rfl
     case h63=>unfold maxLen;omega
     case hby=>omega
     case hbs=>simp;omega
     intro v6 w6 own6 hg6 hw6
     have hb6:w6.heap[bf]?=some (.cells #[.slice va o1.length vc,pv] 122 (0,0)):=by rw[hg6.block bf (by simp;have:=HW.o.lt;omega) (fun e=>HW.o.ne bf e.symm rfl)];exact bla _ hblk
     have HG:=hide (HW.o.grow ((OutK.refl B bf wr).alloc _) (bas HW.o.lt) (HW.o.oo.alloc _) hg6 (fun g hg=>(hw6 g hg).imp id (fun z=>by omega)) own6 rfl)
     obtain⟨va6,vc6,hv6⟩:=ows own6
     subst hv6
     have c6:w6.cell? ⟨bf,0,none⟩=some (.slice va o1.length vc):=ceb hb6
     have f6:w6.frozen? ⟨bf,0,none⟩=false:=frb hb6
     clear own6 hg6 hw6 hb6 hblk
     go_wp2
     go_roundw
     case rel=>exact⟨m+1,_,by omega,by first | rfl | (congr 1),by rw[HTK.o,←List.append_assoc,HOU.o,HWB.o];exact HG.o.1,HK.o.trans HG.o.2⟩
     case measure=>simp[intOf];omega
    ·have HWB:Hid (Fo.wquoB b=[92,48+b/64,48+b/8%8,48+b%8]):=by unfold Hid Fo.wquoB;rw[if_neg h3,if_neg h4]
     have HWI:=hide (fun W=>wbn (b:Int) 32 126 W (by omega))
     clear h3 h4
     go_wp2_with fail
     refine(HWI.o _).mono ?_
     rintro e w' ⟨rfl,hw⟩
     have hw:=hw.symm
     subst hw
     go_wp2_with (at_builtin;refine Go.wpList_append_where _ rfl (.tmp 21) (.tmp 32) 23 rfl B 5 i1 (.int .u8 0) 1 1 Tryz.underlying23 gi gz0 gz1 gz2 rfl (by decide) _ o1.length _ rfl (HW.o.oo.alloc _) ⟨wr.heap.size,0,none⟩ 4 4 (byv [92,48+b/64,48+b/8%8,48+b%8]) rfl rfl ?hnews ?hone ?h63 ?hby ?hbs ?_)
     case hnews=>exact news4Y rfl (by omega) (by omega) (by omega)
     case hone=>intro u hu;simp[byv]at hu;rcases hu with rfl | rfl | rfl | rfl<;>rfl
     case h63=>unfold maxLen;omega
     case hby=>omega
     case hbs=>simp;omega
     intro v6 w6 own6 hg6 hw6
     have hb6:w6.heap[bf]?=some (.cells #[.slice va o1.length vc,pv] 122 (0,0)):=by rw[hg6.block bf (by simp;have:=HW.o.lt;omega) (fun e=>HW.o.ne bf e.symm rfl)];exact bla _ hblk
     have HG:=hide (HW.o.grow ((OutK.refl B bf wr).alloc _) (bas HW.o.lt) (HW.o.oo.alloc _) hg6 (fun g hg=>(hw6 g hg).imp id (fun z=>by omega)) own6 rfl)
     obtain⟨va6,vc6,hv6⟩:=ows own6
     subst hv6
     have c6:w6.cell? ⟨bf,0,none⟩=some (.slice va o1.length vc):=ceb hb6
     have f6:w6.frozen? ⟨bf,0,none⟩=false:=frb hb6
     clear own6 hg6 hw6 hb6 hblk
     go_wp2
     go_roundw
     case rel=>exact⟨m+1,_,by omega,by first | rfl | (congr 1),by rw[HTK.o,←List.append_assoc,HOU.o,HWB.o];exact HG.o.1,HK.o.trans HG.o.2⟩
     case measure=>simp[intOf];omega
namespace Fo
def wint(n:Int):List Nat:=if n<0 then 45::dec n.natAbs else dec n.toNat
def padTo(k n:Nat):List Nat:=List.replicate (k-(dec n).length) 48++dec n
end Fo
theorem OutW.below(h:OutW B bf w ov pv out pl)(b:Below w.heap.size w w'):OutW B bf w' ov pv out pl:=⟨h.hb,by rw[b.block bf h.lt];exact h.blk,obW h.oo b,obW h.po b⟩
theorem bl_dec(n:Nat):bl (strN (Fo.dec n))=Fo.dec n:=by
 rw[sNd]
 unfold bl Fo.dec
 rfl
theorem bl_app(S T:ByteArray):bl (S++T)=bl S++bl T:=by unfold bl;simp
theorem bl_rep(k:Nat):bl ⟨(Lib.repeatL [48] k).toArray⟩=List.replicate k 48:=by
 unfold bl
 simp only[List.toList_toArray]
 induction k with
 |zero=>rfl
 |succ k ih=>rw[List.replicate_succ,←ih];rfl
theorem wio{E:Nat}(he:Env E w)(hE:E≤w.heap.size)(n:Int)(h1 : -9223372036854775808≤n)(h2:n≤9223372036854775807):Calls Tryz.prog 97 #[.int .i64 n] w fun e w'=>∃ S,e=.returned (.string S)∧bl S=Fo.wint n∧Below w.heap.size w w':=by
 refine(Tryz.strconv_Itoa n h1 h2 w he.pow).mono ?_
 rintro e w' ⟨rfl,k,os,rfl⟩
 refine⟨_,rfl,?_,bg w k os⟩
 unfold bl Fo.wint Lib.itoa Fo.dec
 simp only[List.toList_toArray]
 by_cases h:n<0
 ·rw[if_pos h,if_pos h];rfl
 ·rw[if_neg h,if_neg h]
theorem pTo{E:Nat}(h:Env E w)(hw:E≤w.heap.size)(n k:Nat)(hn:n≤9223372036854775807)(hk:k≤100) :
  Calls Tryz.prog 133 #[.int .i64 (n:Int),.int .i64 (k:Int)] w fun e w'=>∃ S,e=.returned (.string S)∧bl S=Fo.padTo k n∧Below w.heap.size w w':=by
 have HI:=hide (io h hw n (by omega))
 have hl:(Fo.dec n).length≤19:=del 18 n (by omega)
 have hsz:(strN (Fo.dec n)).size=(Fo.dec n).length:=sNs _
 have HBD:=hide (bl_dec n)
 have HPT:Hid (Fo.padTo k n=List.replicate (k-(Fo.dec n).length) 48++Fo.dec n):=rfl
 generalize strN (Fo.dec n)=S at *
 generalize Fo.padTo k n=P at *
 generalize hdl:(Fo.dec n).length=l at *
 have hmx:max (0:Int) ((k:Int)-(S.size:Int))=((k-l:Nat):Int):=by omega
 have hmw:IntKind.i64.wrap ((k:Int)-(S.size:Int))=(k:Int)-(l:Int):=by rw[IntKind.wrap_i64];omega
 clear h hdl
 go_enter Tryz.func133,Tryz.ntmps133
 go_wp2_with fail
 refine HI.o.mono ?_
 rintro e w1 ⟨rfl,b1⟩
 have B1:=hide b1
 clear b1 HI
 go_wp2_with fail
 rw[show max (0:Int) ((k:Int)-(l:Int))=((k-l:Nat):Int)by omega]
 refine(Tryz.strings_Repeat { data:=#[48] } (k-l) _ (by omega) (by simp[ByteArray.size];omega)).mono ?_
 rintro e w2 ⟨he,b2⟩
 obtain⟨Rp,hRp⟩:∃ Rp:ByteArray,⟨(Lib.repeatL [48] (k-l)).toArray⟩=Rp:=⟨_,rfl⟩
 have hrs:Rp.size≤100:=by
  rw[←hRp]
  simp[ByteArray.size,Lib.repeatL_length]
  omega
 have HRB:Hid (bl Rp=List.replicate (k-l) 48):=by unfold Hid;rw[←hRp];exact bl_rep _
 rw[show({ data:=#[48] }:ByteArray).data.toList=[48]from rfl,hRp]at he
 subst he
 have B2:=hide (B1.o.trans (b2.mono B1.o.size))
 have hcat:¬ 9223372036854775807<Rp.size+S.size:=by omega
 clear b2 B1 hRp
 go_wp2
 go_ret
 exact⟨_,rfl,by rw[bl_app,HRB.o,HBD.o,HPT.o],B2.o⟩
end
end Go.Proofs.YtgkljcmjnphpeaaGreatDoor
