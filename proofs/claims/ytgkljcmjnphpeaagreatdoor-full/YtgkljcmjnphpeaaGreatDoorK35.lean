import Derived.Test.YtgkljcmjnphpeaaGreatDoorK33
import Derived.Test.YtgkljcmjnphpeaaGreatDoorK34
set_option linter.unusedVariables false
set_option linter.unusedSimpArgs false
set_option maxHeartbeats 4000000
set_option maxRecDepth 100000
namespace Go.Proofs.YtgkljcmjnphpeaaGreatDoor
open Go.RowKit
section
variable{w w':World}
def naV(f:Nat):Value:=.agg #[.int .i64 4,.int .i64 0,.int .i64 0,.string (Fo.nameB f),.slice none 0 0,.slice none 0 0,.slice none 0 0]
def Fo.namesV(j:Nat)(fs:List Nat):VT (j+2):=(⟨6,0,0,[],fs.map (fun f=>(leafN (VT j) 4 0 0 (bl (Fo.nameB f)):VT (j+1))),[],[]⟩:Node (VT (j+1)))
theorem newsN{W:World}{b:Nat}{f:Nat}(hb:W.heap[b]?=some (.cells #[.int .i64 4,.int .i64 0,.int .i64 0,.string (Fo.nameB f),.slice none 0 0,.slice none 0 0,.slice none 0 0] 67 (0,0))):∀(j:Nat) (u:Value),(cellsOf (naV f))[j]?=some u→W.cell? ((⟨b,0,none⟩:Addr).add j)=some u:=by
 intro j u h
 rw[aa,ceb hb]
 rw[←h]
 simp[cellsOf,naV,Value.cells]
structure NmI(w:World)(fs:List Fil)(m:Nat)(v:Value)(W:World):Prop where
 blk:W.heap[w.heap.size+1]?=some (.cells #[.int .i64 6,.int .i64 0,.int .i64 0,.string { data:=#[] },v,.slice none 0 0,.slice none 0 0] 67 (0,0))
 res:W.heap[w.heap.size]?=some (.cells #[.int .i64 0,.int .i64 0,.int .i64 0,.string { data:=#[] },.slice none 0 0,.slice none 0 0,.slice none 0 0] 67 (0,0))
 own:W.ownsRow (w.heap.size+2) 67 7 v m ((fs.take m).flatMap fun x=>cellsOf (naV x.1))
 bel:Below w.heap.size w W
theorem NmI.step{W W6:World}{fs:List Fil}{m:Nat}{v v6:Value}{x:Fil}{o:Obj}(h:NmI w fs m v W)(hm:m<fs.length)(hx:fs[m]?.getD Fil.one=x)(own:W6.ownsRow (w.heap.size+2) 67 7 v6 (m+1) (((fs.take m).flatMap fun x=>cellsOf (naV x.1))++cellsOf (naV x.1)))(hg:(W.drew.alloc o).grownBy W6 v.ownBlock) :
  W6.heap[w.heap.size+1]?=some (.cells #[.int .i64 6,.int .i64 0,.int .i64 0,.string { data:=#[] },v,.slice none 0 0,.slice none 0 0] 67 (0,0))∧NmI w fs (m+1) v6 (W6.setCell ⟨w.heap.size+1,4,none⟩ v6):=by
 have hlt:w.heap.size+2≤W.heap.size:=lt_of_block h.blk
 have hgb:∀ k,k<w.heap.size+2→W6.heap[k]?=W.heap[k]?:=fun k hk=>by
  rw[hg.block k (by simp;omega) (fun e=>by have:=(h.own.lt k e.symm).1;omega),Below.heap_alloc _ _ _ (by show k<W.heap.size;omega)]
  rfl
 have hb:=(hgb _ (by omega)).trans h.blk
 refine⟨hb,?_,?_,?_,?_⟩
 ·rw[bsC _ hb];rfl
 ·rw[bsCn _ (by show w.heap.size≠w.heap.size+1;omega)]
  exact(hgb _ (by omega)).trans h.res
 ·have ht:fs.take (m+1)=fs.take m++[x]:=by
   rw[List.take_add_one,List.getElem?_eq_getElem hm]
   rw[List.getElem?_eq_getElem hm]at hx
   simp at hx
   rw[hx];rfl
  rw[ht,List.flatMap_append,List.flatMap_singleton]
  obtain⟨h1,h2⟩:=own
  refine⟨h1,?_⟩
  rcases h2 with h2 | ⟨g,c,cur,e1,e2,hh,hc⟩
  ·exact Or.inl h2
  ·exact Or.inr ⟨g,c,cur,e1,e2,by rw[bsCn _ (by show g≠w.heap.size+1;omega)];exact hh,hc⟩
 ·refine Below.setCell (p:=⟨w.heap.size+1,4,none⟩) ?_ (Nat.le_succ _) _
  exact((h.bel.drew.alloc (by show w.heap.size≤W.heap.size;omega) _).grown hg (by simp;omega) (fun k e=>by have:=(h.own.lt k e).1;omega))
theorem wfo{fa:Option Addr}{nf fc:Nat}{fs:List Fil}(hfs:FilsAt w.heap.size w (.slice fa nf fc) fs)(hl:fs.length≤1000)(hnf:nf=fs.length) :
  Calls Tryz.prog 237 #[.slice fa nf fc] w fun e w'=>∃ a c,e=.returned (.agg #[.int .i64 6,.int .i64 0,.int .i64 0,.string { data:=#[] },.slice a fs.length c,.slice none 0 0,.slice none 0 0])∧w'.ownsRow (w.heap.size+2) 67 7 (.slice a fs.length c) fs.length (fs.flatMap fun x=>cellsOf (naV x.1))∧Below w.heap.size w w':=by
 obtain⟨i0,hi,hz0,hz1,hz2⟩:=info_parts iV
 have HF:=hide hfs
 clear hfs
 subst hnf
 obtain⟨N,hN⟩:∃ N,fs.length=N:=⟨_,rfl⟩
 have HN:=hide hN
 rw[hN]at hl ⊢
 clear hN
 go_enter Tryz.func237,Tryz.ntmps237
 go_wp2
 go_loopw [9] (fun iv wr=>∃(m:Nat) (v:Value),m≤N∧iv=.int .i64 (m:Int)∧Hid (NmI w fs m v wr)) (fun iv _=>N-(intOf iv).toNat)
 case atStart =>
  refine⟨0,.slice none 0 0,Nat.zero_le _,rfl,?_,bla _ (bln _ _),World.ownsRow_nil _ _ _ _,((Below.refl _ _).alloc (Nat.le_refl _) _).alloc (by simp) _⟩
  have:=bln (w.alloc (.cells #[.int .i64 0,.int .i64 0,.int .i64 0,.string { data:=#[] },.slice none 0 0,.slice none 0 0,.slice none 0 0] 67)) (.cells #[.int .i64 6,.int .i64 0,.int .i64 0,.string { data:=#[] },.slice none 0 0,.slice none 0 0,.slice none 0 0] 67)
  rwa [World.size_alloc]at this
 case round =>
  obtain⟨m,v,hm,rfl,H⟩:=hrel
  obtain⟨va,vc,hv⟩:=ows H.o.own
  subst hv
  have hb:=H.o.blk
  have c4:wr.cell? ⟨w.heap.size+1,4,none⟩=some (.slice va m vc):=ceb hb
  rcases Nat.eq_or_lt_of_le hm with rfl | hlt
  ·have hres:=H.o.res
   have d0:wr.cell? ⟨w.heap.size+1,0,none⟩=some (.int .i64 6):=ceb hb
   have d1:wr.cell? ⟨w.heap.size+1,1,none⟩=some (.int .i64 0):=ceb hb
   have d2:wr.cell? ⟨w.heap.size+1,2,none⟩=some (.int .i64 0):=ceb hb
   have d3:wr.cell? ⟨w.heap.size+1,3,none⟩=some (.string { data:=#[] }):=ceb hb
   have d5:wr.cell? ⟨w.heap.size+1,5,none⟩=some (.slice none 0 0):=ceb hb
   have d6:wr.cell? ⟨w.heap.size+1,6,none⟩=some (.slice none 0 0):=ceb hb
   have r0:wr.cell? ⟨w.heap.size,0,none⟩=some (.int .i64 0):=ceb hres
   have f0:wr.frozen? ⟨w.heap.size,0,none⟩=false:=frb hres
   have r1:wr.cell? ⟨w.heap.size,1,none⟩=some (.int .i64 0):=ceb hres
   have f1:wr.frozen? ⟨w.heap.size,1,none⟩=false:=frb hres
   have r2:wr.cell? ⟨w.heap.size,2,none⟩=some (.int .i64 0):=ceb hres
   have f2:wr.frozen? ⟨w.heap.size,2,none⟩=false:=frb hres
   have r3:wr.cell? ⟨w.heap.size,3,none⟩=some (.string { data:=#[] }):=ceb hres
   have f3:wr.frozen? ⟨w.heap.size,3,none⟩=false:=frb hres
   have r4:wr.cell? ⟨w.heap.size,4,none⟩=some (.slice none 0 0):=ceb hres
   have f4:wr.frozen? ⟨w.heap.size,4,none⟩=false:=frb hres
   have r5:wr.cell? ⟨w.heap.size,5,none⟩=some (.slice none 0 0):=ceb hres
   have f5:wr.frozen? ⟨w.heap.size,5,none⟩=false:=frb hres
   have r6:wr.cell? ⟨w.heap.size,6,none⟩=some (.slice none 0 0):=ceb hres
   have f6:wr.frozen? ⟨w.heap.size,6,none⟩=false:=frb hres
   have HS:=hide (set7 (by unfold zero7;exact hres) (.int .i64 6) (.int .i64 0) (.int .i64 0) (.string { data:=#[] }) (.slice va m vc) (.slice none 0 0) (.slice none 0 0))
   have HO:=hide (only7 wr w.heap.size (.int .i64 6) (.int .i64 0) (.int .i64 0) (.string { data:=#[] }) (.slice va m vc) (.slice none 0 0) (.slice none 0 0))
   clear hb hres
   go_wp2
   refine bodyPost_ret (v:=.agg #[.int .i64 6,.int .i64 0,.int .i64 0,.string { data:=#[] },.slice va m vc,.slice none 0 0,.slice none 0 0]) ?_ rfl ?_
   ·exact results_cell_row Tryz.results237 _ _ w.heap.size 67 _ _ _ rfl HS.o Tryz.underlying67 rfl (by kernel_rfl)
   have o:=HO.o
   have hown:=H.o.own
   rw[List.take_of_length_le (by rw[HN.o];exact Nat.le_refl _)]at hown
   refine⟨va,vc,rfl,?_,H.o.bel.trans ⟨o.os,o.tape,o.output,o.size,fun k hk=>o.block k (Nat.lt_of_lt_of_le hk H.o.bel.size) (by omega)⟩⟩
   obtain⟨h1,h2⟩:=hown
   refine⟨h1,?_⟩
   rcases h2 with h2 | ⟨g,c,cur,e1,e2,hh,hc⟩
   ·exact Or.inl h2
   ·exact Or.inr ⟨g,c,cur,e1,e2,by rw[o.block g (lt_of_block hh) (by omega)];exact hh,hc⟩
  ·have hfa:∃ b,fa=some ⟨b,0,none⟩∧wr.cell? ⟨b,m,none⟩=some (.int .i64 ((fs[m]?.getD Fil.one).1:Nat)):=by
    rcases HF.o.below H.o.bel with⟨h1,h2⟩ | ⟨b,cap,h1,h2,h3⟩
    ·have:=HN.o;rw[h2]at this;simp at this;omega
    ·cases h1
     exact⟨b,rfl,h3 m (by have:=HN.o;omega)⟩
   obtain⟨b,rfl,hc⟩:=hfa
   obtain⟨x,hx⟩:∃ x,fs[m]?.getD Fil.one=x:=⟨_,rfl⟩
   rw[hx]at hc
   have HX:=hide hx
   clear hx
   have hbw:w.heap.size+2≤wr.heap.size:=lt_of_block hb
   have HNM:∀ W:World,Calls Tryz.prog 290 #[.int .i64 (x.1:Nat)] W fun e w'=>e=.returned (.string (Fo.nameB x.1))∧w'=W:=fun W=>fno x.1 x.2.le.1 x.2.le.2 W
   have HNM:=hide HNM
   have HML:Hid (m<fs.length):=by unfold Hid;rw[HN.o];exact hlt
   have HB:=hide hb
   have c4a:(wr.alloc (.cells #[.int .i64 4,.int .i64 0,.int .i64 0,.string (Fo.nameB x.1),.slice none 0 0,.slice none 0 0,.slice none 0 0] 67)).cell? ⟨w.heap.size+1,4,none⟩=some (.slice va m vc):=ceb (bla _ hb)
   clear hb
   go_wp2_with fail
   go_region_law (first | (refine sc_ rfl (.tmp 15) 290 3 rfl (.int .i64 (x.1:Nat)) (.string (Fo.nameB x.1)) rfl (enters_of Tryz.func290 (by kernel_rfl) rfl) (HNM.o _) ?_) | (refine sao rfl (.tmp 14) (.tmp 18) 29 rfl (w.heap.size+2) 67 i0 _ 7 112 Tryz.underlying29 hi hz0 hz1 hz2 rfl (by decide) (.slice va m vc) m _ rfl (H.o.own.drew.alloc _) ⟨wr.heap.size,0,none⟩ 1 1 (cellsOf (naV x.1)) rfl rfl ?hnews ?hone ?h63 ?hby ?hb ?_;(case hnews=>exact newsN (bln wr.drew _));(case hone=>intro u hu;simp[cellsOf,naV,Value.cells]at hu;rcases hu with rfl | rfl | rfl | rfl<;>rfl);(case h63=>unfold maxLen;omega);(case hby=>omega);(case hb=>simp;omega);intro v6 w6 own6 hg6 _;obtain⟨hb6,HG⟩:=H.o.step HML.o HX.o own6 hg6;have HG:=hide HG;have c6:w6.cell? ⟨w.heap.size+1,4,none⟩=some (.slice va m vc):=(ceb hb6);have f6:w6.frozen? ⟨w.heap.size+1,4,none⟩=false:=frb hb6;obtain⟨a6,e6,hv6⟩:=ows own6;subst hv6;clear own6 hg6 hb6))
   all_goals (
    clear c6 f6
    go_wp2
    go_roundw
    case rel=>exact⟨m+1,_,by omega,by first | rfl | (congr 1),HG⟩
    case measure=>simp[intOf];omega)
theorem growS(m:Nat)(hm:0<m)(hm2:m≤1000000):Calls Tryz.prog 288 #[.slice none 0 0,.int .i64 (m:Nat)] w fun e w'=>∃ c,e=.returned (.slice (some ⟨w.heap.size,0,none⟩) 0 c)∧w'.ownsRow w.heap.size 9 1 (.slice (some ⟨w.heap.size,0,none⟩) 0 c) 0 []∧Below w.heap.size w w':=by
 obtain⟨i0,hi,hz0,hz1,hz2⟩:=info_parts iS
 go_enter Tryz.func288,Tryz.ntmps288
 go_wp2_with (at_builtin;refine wLaz rfl (.tmp 20) (.tmp 21) 38 3 rfl 9 i0 _ .i64 1 16 Tryz.underlying38 Tryz.underlying3 hi hz0 hz1 hz2 rfl (by decide) rfl m rfl hm ?h63 ?hby ?_)
 case h63=>unfold maxLen;omega
 case hby=>omega
 intro c w1 own1 b1 hc
 have HO:=hide own1
 have HB:=hide b1
 clear own1 b1
 go_wp2
 go_ret
 exact⟨c,rfl,HO.o,HB.o⟩
theorem cS{b c n0 n1:Nat}{s0 s1:Value}{xs0 xs1:List Value}(hb:w.heap[b]?=some (.cells #[s0,s1] 38 (0,0)))(h0:w.ownsRow 0 9 1 s0 n0 xs0)(h1:w.ownsRow 0 9 1 s1 n1 xs1)(o0:∀ y∈xs0,y.oneCell'=true)(o1:∀ y∈xs1,y.oneCell'=true)(hn:0<n0+n1)(hn2:n0+n1≤1000000) :
  Calls Tryz.prog 235 #[.slice (some ⟨b,0,none⟩) 2 c] w fun e w'=>∃ v,e=.returned v∧w'.ownsRow w.heap.size 9 1 v (n0+n1) (xs0++xs1)∧Below w.heap.size w w':=by
 obtain⟨i0,hi,hz0,hz1,hz2⟩:=info_parts iS
 obtain⟨a0,k0,rfl⟩:=ows h0
 obtain⟨a1,k1,rfl⟩:=ows h1
 have HB:=hide hb
 have H0:=hide h0
 have H1:=hide h1
 have O0:=hide o0
 have O1:=hide o1
 have c0:w.cell? ⟨b,0,none⟩=some (.slice a0 n0 k0):=ceb hb
 have c1:w.cell? ⟨b,1,none⟩=some (.slice a1 n1 k1):=ceb hb
 have hblt:=lt_of_block hb
 obtain⟨N,hN⟩:∃ N,n0+n1=N:=⟨_,rfl⟩
 have HN:=hide hN
 have l0:n0≤1000000:=by omega
 have l1:n1≤1000000:=by omega
 rw[hN]at hn hn2 ⊢
 clear hb h0 h1 o0 o1 hN
 go_enter Tryz.func235,Tryz.ntmps235
 go_wp2
 go_loopw [3,11] (fun s iv wr=>w=wr∧((s=.int .i64 0∧iv=.int .i64 0)∨(s=.int .i64 (n0:Nat)∧iv=.int .i64 1)∨(s=.int .i64 (N:Nat)∧iv=.int .i64 2))) (fun _ iv _=>2-(intOf iv).toNat)
 case atStart=>exact⟨rfl,Or.inl ⟨rfl,rfl⟩⟩
 case round =>
  obtain⟨rfl,⟨rfl,rfl⟩ | ⟨rfl,rfl⟩ | ⟨rfl,rfl⟩⟩:=hrel
  ·go_wp2
   go_roundw
   case rel=>exact⟨trivial,Or.inr (Or.inl ⟨by simp,rfl⟩)⟩
   case measure=>simp[intOf]
  ·go_wp2
   go_roundw
   case rel=>exact⟨trivial,Or.inr (Or.inr ⟨by congr 1;have:=HN.o;omega,rfl⟩)⟩
   case measure=>simp[intOf]
  ·have HGR:=hide (growS (w:=w) N hn hn2)
   go_wp2_with fail
   refine HGR.o.mono ?_
   rintro e w1 ⟨cg,rfl,own1,b1⟩
   have HO1:=hide own1
   have B1:=hide b1
   clear own1 b1 HGR
   go_wp2
   go_loopw [6,27] (fun v iv wx=>Hid (Below w.heap.size w wx)∧((iv=.int .i64 0∧Hid (wx.ownsRow w.heap.size 9 1 v 0 []))∨(iv=.int .i64 1∧Hid (wx.ownsRow w.heap.size 9 1 v n0 xs0))∨(iv=.int .i64 2∧Hid (wx.ownsRow w.heap.size 9 1 v N (xs0++xs1))))) (fun _ iv _=>2-(intOf iv).toNat)
   case atStart=>exact⟨B1,Or.inl ⟨rfl,HO1⟩⟩
   case round =>
    obtain⟨BX,⟨rfl,HV⟩ | ⟨rfl,HV⟩ | ⟨rfl,HV⟩⟩:=hrel
    ·have dj:wr.cell? ⟨b,0,none⟩=some (.slice a0 n0 k0):=(BX.o.cell (p:=⟨b,0,none⟩) hblt).trans c0
     have HS:=hide (owb H0.o BX.o)
     have hbw:=BX.o.size
     obtain⟨ua,uc,rfl⟩:=ows HV.o
     go_wp2_with (at_builtin;refine wLar rfl (.tmp 31) (.tmp 32) 38 rfl w.heap.size 9 i0 _ 1 16 Tryz.underlying38 hi hz0 hz1 hz2 rfl (by decide) _ 0 _ rfl HV.o _ n0 _ rfl HS.o O0.o ?h63 ?hby ?hbs ?_)
     case h63=>unfold maxLen;have:=HN.o;omega
     case hby=>have:=HN.o;omega
     case hbs=>exact hbw
     intro v2 w2 own2 hg2
     have B2:=hide (BX.o.grown hg2 hbw (fun k e=>(HV.o.lt k e).1))
     have HV2:=hide own2
     clear own2 hg2
     go_wp2
     go_roundw
     case rel=>exact⟨B2,Or.inr (Or.inl ⟨rfl,HV2⟩)⟩
     case measure=>simp[intOf]
    ·have dj:wr.cell? ⟨b,1,none⟩=some (.slice a1 n1 k1):=(BX.o.cell (p:=⟨b,1,none⟩) hblt).trans c1
     have HS:=hide (owb H1.o BX.o)
     have hbw:=BX.o.size
     obtain⟨ua,uc,rfl⟩:=ows HV.o
     go_wp2_with (at_builtin;refine wLar rfl (.tmp 31) (.tmp 32) 38 rfl w.heap.size 9 i0 _ 1 16 Tryz.underlying38 hi hz0 hz1 hz2 rfl (by decide) _ n0 _ rfl HV.o _ n1 _ rfl HS.o O1.o ?h63 ?hby ?hbs ?_)
     case h63=>unfold maxLen;have:=HN.o;omega
     case hby=>have:=HN.o;omega
     case hbs=>exact hbw
     intro v2 w2 own2 hg2
     have B2:=hide (BX.o.grown hg2 hbw (fun k e=>(HV.o.lt k e).1))
     have HV2:=hide own2
     clear own2 hg2
     go_wp2
     go_roundw
     case rel=>exact⟨B2,Or.inr (Or.inr ⟨rfl,by have h:=HV2.o;rw[HN.o]at h;exact h⟩)⟩
     case measure=>simp[intOf]
    ·go_wp2
     go_ret
     exact⟨_,rfl,HV.o,BX.o⟩
theorem growV(m:Nat)(hm:0<m)(hm2:m≤1000000):Calls Tryz.prog 289 #[.slice none 0 0,.int .i64 (m:Nat)] w fun e w'=>∃ c,e=.returned (.slice (some ⟨w.heap.size,0,none⟩) 0 c)∧w'.ownsRow w.heap.size 67 7 (.slice (some ⟨w.heap.size,0,none⟩) 0 c) 0 []∧Below w.heap.size w w':=by
 obtain⟨i0,hi,hz0,hz1,hz2⟩:=info_parts iV
 go_enter Tryz.func289,Tryz.ntmps289
 go_wp2_with (at_builtin;refine wLaz rfl (.tmp 20) (.tmp 21) 29 3 rfl 67 i0 _ .i64 7 112 Tryz.underlying29 Tryz.underlying3 hi hz0 hz1 hz2 rfl (by decide) rfl m rfl hm ?h63 ?hby ?_)
 case h63=>unfold maxLen;omega
 case hby=>omega
 intro c w1 own1 b1 hc
 have HO:=hide own1
 have HB:=hide b1
 clear own1 b1
 go_wp2
 go_ret
 exact⟨c,rfl,HO.o,HB.o⟩
theorem coV{b c n0 n1:Nat}{s0 s1:Value}{xs0 xs1:List Value}(hb:w.heap[b]?=some (.cells #[s0,s1] 29 (0,0)))(h0:w.ownsRow 0 67 7 s0 n0 xs0)(h1:w.ownsRow 0 67 7 s1 n1 xs1)(o0:∀ y∈xs0,y.oneCell'=true)(o1:∀ y∈xs1,y.oneCell'=true)(hn:0<n0+n1)(hn2:n0+n1≤1000000) :
  Calls Tryz.prog 236 #[.slice (some ⟨b,0,none⟩) 2 c] w fun e w'=>∃ v,e=.returned v∧w'.ownsRow w.heap.size 67 7 v (n0+n1) (xs0++xs1)∧Below w.heap.size w w':=by
 obtain⟨i0,hi,hz0,hz1,hz2⟩:=info_parts iV
 obtain⟨a0,k0,rfl⟩:=ows h0
 obtain⟨a1,k1,rfl⟩:=ows h1
 have HB:=hide hb
 have H0:=hide h0
 have H1:=hide h1
 have O0:=hide o0
 have O1:=hide o1
 have c0:w.cell? ⟨b,0,none⟩=some (.slice a0 n0 k0):=ceb hb
 have c1:w.cell? ⟨b,1,none⟩=some (.slice a1 n1 k1):=ceb hb
 have hblt:=lt_of_block hb
 obtain⟨N,hN⟩:∃ N,n0+n1=N:=⟨_,rfl⟩
 have HN:=hide hN
 have l0:n0≤1000000:=by omega
 have l1:n1≤1000000:=by omega
 rw[hN]at hn hn2 ⊢
 clear hb h0 h1 o0 o1 hN
 go_enter Tryz.func236,Tryz.ntmps236
 go_wp2
 go_loopw [3,11] (fun s iv wr=>w=wr∧((s=.int .i64 0∧iv=.int .i64 0)∨(s=.int .i64 (n0:Nat)∧iv=.int .i64 1)∨(s=.int .i64 (N:Nat)∧iv=.int .i64 2))) (fun _ iv _=>2-(intOf iv).toNat)
 case atStart=>exact⟨rfl,Or.inl ⟨rfl,rfl⟩⟩
 case round =>
  obtain⟨rfl,⟨rfl,rfl⟩ | ⟨rfl,rfl⟩ | ⟨rfl,rfl⟩⟩:=hrel
  ·go_wp2
   go_roundw
   case rel=>exact⟨trivial,Or.inr (Or.inl ⟨by simp,rfl⟩)⟩
   case measure=>simp[intOf]
  ·go_wp2
   go_roundw
   case rel=>exact⟨trivial,Or.inr (Or.inr ⟨by congr 1;have:=HN.o;omega,rfl⟩)⟩
   case measure=>simp[intOf]
  ·have HGR:=hide (growV (w:=w) N hn hn2)
   go_wp2_with fail
   refine HGR.o.mono ?_
   rintro e w1 ⟨cg,rfl,own1,b1⟩
   have HO1:=hide own1
   have B1:=hide b1
   clear own1 b1 HGR
   go_wp2
   go_loopw [6,27] (fun v iv wx=>Hid (Below w.heap.size w wx)∧((iv=.int .i64 0∧Hid (wx.ownsRow w.heap.size 67 7 v 0 []))∨(iv=.int .i64 1∧Hid (wx.ownsRow w.heap.size 67 7 v n0 xs0))∨(iv=.int .i64 2∧Hid (wx.ownsRow w.heap.size 67 7 v N (xs0++xs1))))) (fun _ iv _=>2-(intOf iv).toNat)
   case atStart=>exact⟨B1,Or.inl ⟨rfl,HO1⟩⟩
   case round =>
    obtain⟨BX,⟨rfl,HV⟩ | ⟨rfl,HV⟩ | ⟨rfl,HV⟩⟩:=hrel
    ·have dj:wr.cell? ⟨b,0,none⟩=some (.slice a0 n0 k0):=(BX.o.cell (p:=⟨b,0,none⟩) hblt).trans c0
     have HS:=hide (owb H0.o BX.o)
     have hbw:=BX.o.size
     obtain⟨ua,uc,rfl⟩:=ows HV.o
     go_wp2_with (at_builtin;refine wLar rfl (.tmp 31) (.tmp 32) 29 rfl w.heap.size 67 i0 _ 7 112 Tryz.underlying29 hi hz0 hz1 hz2 rfl (by decide) _ 0 _ rfl HV.o _ n0 _ rfl HS.o O0.o ?h63 ?hby ?hbs ?_)
     case h63=>unfold maxLen;have:=HN.o;omega
     case hby=>have:=HN.o;omega
     case hbs=>exact hbw
     intro v2 w2 own2 hg2
     have B2:=hide (BX.o.grown hg2 hbw (fun k e=>(HV.o.lt k e).1))
     have HV2:=hide own2
     clear own2 hg2
     go_wp2
     go_roundw
     case rel=>exact⟨B2,Or.inr (Or.inl ⟨rfl,HV2⟩)⟩
     case measure=>simp[intOf]
    ·have dj:wr.cell? ⟨b,1,none⟩=some (.slice a1 n1 k1):=(BX.o.cell (p:=⟨b,1,none⟩) hblt).trans c1
     have HS:=hide (owb H1.o BX.o)
     have hbw:=BX.o.size
     obtain⟨ua,uc,rfl⟩:=ows HV.o
     go_wp2_with (at_builtin;refine wLar rfl (.tmp 31) (.tmp 32) 29 rfl w.heap.size 67 i0 _ 7 112 Tryz.underlying29 hi hz0 hz1 hz2 rfl (by decide) _ n0 _ rfl HV.o _ n1 _ rfl HS.o O1.o ?h63 ?hby ?hbs ?_)
     case h63=>unfold maxLen;have:=HN.o;omega
     case hby=>have:=HN.o;omega
     case hbs=>exact hbw
     intro v2 w2 own2 hg2
     have B2:=hide (BX.o.grown hg2 hbw (fun k e=>(HV.o.lt k e).1))
     have HV2:=hide own2
     clear own2 hg2
     go_wp2
     go_roundw
     case rel=>exact⟨B2,Or.inr (Or.inr ⟨rfl,by have h:=HV2.o;rw[HN.o]at h;exact h⟩)⟩
     case measure=>simp[intOf]
    ·go_wp2
     go_ret
     exact⟨_,rfl,HV.o,BX.o⟩
end
end Go.Proofs.YtgkljcmjnphpeaaGreatDoor
namespace Go
section
section
variable{P:Program}(w:World)
theorem wpList_append_where{ops:Array Oper}{rest:List Oper}{o:Oper}{a:Act}{Q:Exit→Act→World→Prop}(hgd:o.guard=none)(s x:Operand)(t:TypeId)
  (ho:o.op=.call { callee:=.builtin .append,args:=#[s,x],argTypes:=#[t,t] })
  (base:Nat) (e:TypeId) (i:TypeInfo) (z:Value) (size bytes:Nat) (ht:P.underlying t=some (.slice e)) (hi:P.info? e=some i) (hz:i.zero=some z)
  (hsize:i.size=size) (hby:i.bytes=bytes) (hzs:z.cells.size=size) (hsz:0<size)
  (v:Value) (n:Nat) (xs:List Value) (hs:a.eval s=v) (hown:w.ownsRow base e size v n xs)
  (ad:Addr) (m c:Nat) (news:List Value) (hx:a.eval x=.slice (some ad) m c) (hl:news.length=m*size) (hnews:∀ j u,news[j]?=some u→w.cell? (ad.add j)=some u) (h1:∀ u∈news,u.oneCell'=true)
  (h63:n+m≤maxLen) (hbytes:(n+m)*bytes≤140737488355328) (hbase:base≤w.heap.size)
  (h:∀ v' w',w'.ownsRow base e size v' (n+m) (xs++news)→w.grownBy w' v.ownBlock→(∀ g,v'.ownBlock=some g→v.ownBlock=some g∨w.heap.size≤g)→wpList P ops Q rest (a.put o.dst v') w'):wpList P ops Q (o::rest) a w:=by
 refine wpList_plain hgd fun K hK=>?_
 obtain⟨v',w',hr,h2,h3,h4⟩:=raw (P:=P) (w:=w) base t o.type e i z size bytes ht hi hz hsize hby hzs hsz v n xs hown ad m c news hl hnews h1 h63 hbytes hbase
 unfold Oper.wp execOp
 simp only[ho,resolve,invoke,builtin,Sem.run_bind,Sem.run_pure,Result.andThen_ok,List.map_toArray,List.map_cons,List.map_nil,hs,hx,hr]
 exact hK _ _ (h v' w' h2 h3 h4)
theorem wLasw{ops:Array Oper}{rest:List Oper}{o:Oper}{a:Act}{Q:Exit→Act→World→Prop}(hgd:o.guard=none)(sl x:Operand)(t u:TypeId)
  (ho:o.op=.call { callee:=.builtin .append,args:=#[sl,x],argTypes:=#[t,u] })
  (base:Nat) (e:TypeId) (i:TypeInfo) (ht:P.underlying t=some (.slice e)) (hu:P.underlying u=some .string) (hi:P.info? e=some i) (hz:i.zero=some (.int .u8 0))
  (hsize:i.size=1) (hby:i.bytes=1)
  (v:Value) (n:Nat) (xs:List Value) (hs:a.eval sl=v) (hown:w.ownsRow base e 1 v n xs) (s:ByteArray) (hx:a.eval x=.string s)
  (h63:n+s.size≤maxLen) (hbytes:n+s.size≤140737488355328) (hbase:base≤w.heap.size)
  (h:∀ v' w',w'.ownsRow base e 1 v' (n+s.size) (xs++Lib.strCells s)→w.grownBy w' v.ownBlock→(∀ g,v'.ownBlock=some g→v.ownBlock=some g∨w.heap.size≤g)→wpList P ops Q rest (a.put o.dst v') w'):wpList P ops Q (o::rest) a w:=by
 refine wpList_plain hgd fun K hK=>?_
 obtain⟨v',w',hr,h2,h3,_⟩:=Lib.run_append_own_string (P:=P) w base t u o.type e i ht hu hi hz hsize hby v n xs hown s h63 hbytes hbase
 have h4:∀ g,v'.ownBlock=some g→v.ownBlock=some g∨w.heap.size≤g:=by
  intro g hg
  have hsmall:n+s.size≤9223372036854775807:=by simp only[maxLen]at h63;omega
  rcases hown.2 with⟨rfl,rfl⟩ | ⟨g',cap',cur,rfl,_,hgg,_,_,hcs,_⟩
  ·have hxs:xs=[]:=List.eq_nil_of_length_eq_zero (by have:=hown.1;omega)
   subst hxs
   obtain⟨v2,w2,hr2,k2,_⟩:=Lib.run_append_own_string (P:=P) w w.heap.size t u o.type e i ht hu hi hz hsize hby (.slice none 0 0) 0 [] (World.ownsRow_nil _ _ _ _) s h63 hbytes (Nat.le_refl _)
   rw[hr]at hr2
   injection hr2 with e1 e2
   subst e1
   exact Or.inr (k2.lt g hg).1
  ·by_cases hroom:n+s.size≤cap'
   ·have hr2:=Lib.run_append_room_string (P:=P) w t u o.type e i ht hu hi hsize g' n cap' cur hgg s hroom (by omega)
    rw[hr]at hr2
    injection hr2 with e1 e2
    subst e1
    exact Or.inl hg
   ·have holds:∀ j u,xs[j]?=some u→w.cell? ((⟨g',0,none⟩:Addr).add j)=some u:=hown.cells (g:=g') rfl
    have hr2:=Lib.run_append_grow_string (P:=P) w t u o.type e i (.int .u8 0) ht hu hi hz ⟨g',0,none⟩ n cap' xs (by rw[hsize];exact hown.1) holds s (by omega) (by omega) (by rw[hby];exact growslice_fits (by omega) (by omega))
    rw[hr]at hr2
    injection hr2 with e1 e2
    subst e1
    simp[Value.ownBlock]at hg
    exact Or.inr (by omega)
 unfold Oper.wp execOp
 simp only[ho,resolve,invoke,builtin,Sem.run_bind,Sem.run_pure,Result.andThen_ok,List.map_toArray,List.map_cons,List.map_nil,hs,hx,hr]
 exact hK _ _ (h v' w' h2 h3 h4)
end
end
end Go
namespace Go.Proofs.YtgkljcmjnphpeaaGreatDoor
open Go.RowKit
section
variable{w w':World}{B bf:Nat}{ov pv:Value}{out pl:List Nat}
def byv(l:List Nat):List Value:=l.map fun x:Nat=>.int .u8 (x:Int)
structure OutW(B bf:Nat)(w:World)(ov pv:Value)(out pl:List Nat):Prop where
 hb:B≤bf
 blk:w.heap[bf]?=some (.cells #[ov,pv] 122 (0,0))
 oo:w.ownsRow B 5 1 ov out.length (byv out)
 po:w.ownsRow B 3 1 pv pl.length (pl.map fun x:Nat=>.int .i64 (x:Int))
def Pts(w:World)(bf g:Nat):Prop:=∃ c:Array Value,∃ e f,w.heap[bf]?=some (.cells c e f)∧∃ v,c[0]?=some v∧v.ownBlock=some g
structure OutK(B bf:Nat)(w w':World):Prop extends Kept 5 B [bf] w w' where
 prot:bf<w.heap.size→∀ g o,w.heap[g]?=some o→g≠bf→¬ Pts w bf g→w'.heap[g]?=some o∧¬ Pts w' bf g
theorem Pts.same{w w':World}{bf g:Nat}(h:w'.heap[bf]?=w.heap[bf]?):Pts w' bf g↔Pts w bf g:=by unfold Pts;rw[h]
theorem Pts.of{w:World}{bf g:Nat}{x y:Value}{e:TypeId}{f:Nat × Nat}(h:w.heap[bf]?=some (.cells #[x,y] e f)):Pts w bf g↔x.ownBlock=some g:=by
 constructor
 ·rintro⟨c,e',f',h1,v,h2,h3⟩
  rw[h]at h1
  simp at h1
  obtain⟨rfl,_,_⟩:=h1
  simp at h2
  subst h2
  exact h3
 ·intro h1
  exact⟨_,_,_,h,x,rfl,h1⟩
theorem OutK.refl(B bf:Nat)(w:World):OutK B bf w w:=⟨Kept.refl _ _ _ _,fun _ g o h _ hp=>⟨h,hp⟩⟩
theorem OutK.trans{a b c:World}(h:OutK B bf a b)(k:OutK B bf b c):OutK B bf a c:=
 ⟨Kept.trans h.toKept k.toKept,fun hb g o hg hne hp=>by
  obtain⟨h1,h2⟩:=h.prot hb g o hg hne hp
  exact k.prot (Nat.lt_of_lt_of_le hb h.size) g o h1 hne h2⟩
theorem OutK.of_below{b:Nat}(h:Below w.heap.size w w'):OutK B bf w w' :=
 ⟨⟨h.os,h.tape,h.output,h.size,fun k o _ ho _=>by rw[h.block k (lt_of_block ho)];exact ho⟩,fun hb g o hg _ hp=>⟨by rw[h.block g (lt_of_block hg)];exact hg,fun hq=>hp ((Pts.same (h.block bf hb)).1 hq)⟩⟩
theorem OutK.alloc(h:OutK B bf w w')(o:Obj):OutK B bf w (w'.alloc o):=h.trans (OutK.of_below (b:=0) ((Below.refl _ _).alloc (Nat.le_refl _) o))
theorem OutK.grown{W W':World}{row:Option Nat}{x y:Value}{e:TypeId}{f:Nat × Nat}(k:OutK B bf w W)(hb:W.heap[bf]?=some (.cells #[x,y] e f))(hg:W.grownBy W' row)(hr:∀ g,row=some g→B≤g∧∃ cur fz,W.heap[g]?=some (.cells cur 5 fz))(hbf:row≠some bf)(hx:∀ g,row=some g→x.ownBlock=some g∨w.heap.size≤g):OutK B bf w W':=by
 refine⟨Kept.grown k.toKept hg hr,fun hbw g o hgo hne hp=>?_⟩
 obtain⟨h1,h2⟩:=k.prot hbw g o hgo hne hp
 have hb':W'.heap[bf]?=W.heap[bf]?:=hg.block bf (lt_of_block hb) (fun e=>hbf e.symm)
 refine⟨?_,fun hq=>h2 ((Pts.same hb').1 hq)⟩
 rw[hg.block g (lt_of_block h1) (fun e=>?_)]
 ·exact h1
 ·rcases hx g e.symm with h3 | h3
  ·exact h2 ((Pts.of hb).2 h3)
  ·have:=lt_of_block hgo;omega
theorem OutK.setV{W:World}{x y v:Value}{e:TypeId}{f:Nat × Nat}(k:OutK B bf w W)(hb:W.heap[bf]?=some (.cells #[x,y] e f))(hv:∀ g,v.ownBlock=some g→x.ownBlock=some g∨w.heap.size≤g):OutK B bf w (W.setCell ⟨bf,0,none⟩ v):=by
 refine⟨Kept.setCell k.toKept (by simp) v,fun hbw g o hgo hne hp=>?_⟩
 obtain⟨h1,h2⟩:=k.prot hbw g o hgo hne hp
 have hb2:(W.setCell ⟨bf,0,none⟩ v).heap[bf]?=some (.cells #[v,y] e f):=by rw[bsC _ hb];rfl
 refine⟨by rw[bsCn _ (by show g≠bf;exact hne)];exact h1,fun hq=>?_⟩
 rcases hv g ((Pts.of hb2).1 hq)with h3 | h3
 ·exact h2 ((Pts.of hb).2 h3)
 ·have:=lt_of_block hgo;omega
theorem OutW.lt(h:OutW B bf w ov pv out pl):bf<w.heap.size:=lt_of_block h.blk
theorem OutW.bw(h:OutW B bf w ov pv out pl):B≤w.heap.size:=Nat.le_of_lt (Nat.lt_of_le_of_lt h.hb h.lt)
theorem OutW.ne(h:OutW B bf w ov pv out pl)(g:Nat)(hg:ov.ownBlock=some g):g≠bf:=by
 rintro rfl
 obtain⟨_,c,f,hc⟩:=owr h.oo g hg
 rw[h.blk]at hc
 simp at hc
theorem owk{b B e size n:Nat}{v:Value}{xs:List Value}{S:List Nat}(h:w.ownsRow b e size v n xs)(k:Kept 5 B S w w')(he:e ≠ 5)(hS:∀ g,v.ownBlock=some g→g∉S):w'.ownsRow b e size v n xs:=by
 obtain⟨h1,h2⟩:=h
 refine⟨h1,?_⟩
 rcases h2 with h2 | ⟨g,c,cur,e1,e2,hh,hc⟩
 ·exact Or.inl h2
 ·exact Or.inr ⟨g,c,cur,e1,e2,k.block g _ (hS g (by rw[e1];rfl)) hh (Or.inr fun c' fz h=>by cases h;exact he rfl),hc⟩
theorem OutW.grow{W W':World}(h:OutW B bf w ov pv out pl)(k:OutK B bf w W)(hW:W.heap[bf]?=w.heap[bf]?)(hO:W.ownsRow B 5 1 ov out.length (byv out))(hg:W.grownBy W' ov.ownBlock){v:Value}{m:Nat}{more:List Nat}(hwh:∀ g,v.ownBlock=some g→ov.ownBlock=some g∨w.heap.size≤g)(hv:W'.ownsRow B 5 1 v (out.length+m) (byv out++byv more))(hm:more.length=m) :
  OutW B bf (W'.setCell ⟨bf,0,none⟩ v) v pv (out++more) pl∧OutK B bf w (W'.setCell ⟨bf,0,none⟩ v):=by
 have hbW:W.heap[bf]?=some (.cells #[ov,pv] 122 (0,0)):=hW.trans h.blk
 have hbW':W'.heap[bf]?=some (.cells #[ov,pv] 122 (0,0)):=by
  rw[hg.block bf (lt_of_block hbW) (fun e=>h.ne bf e.symm rfl)];exact hbW
 have kW':OutK B bf w W':=k.grown hbW hg (owr hO) (fun e=>h.ne bf e rfl) (fun g e=>Or.inl e)
 have ks:OutK B bf w (W'.setCell ⟨bf,0,none⟩ v):=kW'.setV hbW' hwh
 have hb2:(W'.setCell ⟨bf,0,none⟩ v).heap[bf]?=some (.cells #[v,pv] 122 (0,0)):=by rw[bsC _ hbW'];rfl
 have hne:∀ g,v.ownBlock=some g→g≠bf:=fun g hg2=>by
  rintro rfl
  obtain⟨_,c,f,hc⟩:=owr hv g hg2
  rw[hbW']at hc
  simp at hc
 refine⟨⟨h.hb,hb2,?_,?_⟩,ks⟩
 ·have hl:(out++more).length=out.length+m:=by rw[List.length_append,hm]
  have hbv:byv (out++more)=byv out++byv more:=by unfold byv;rw[List.map_append]
  rw[hl,hbv]
  obtain⟨h1,h2⟩:=hv
  refine⟨h1,?_⟩
  rcases h2 with h2 | ⟨g,c,cur,e1,e2,hh,hc⟩
  ·exact Or.inl h2
  ·exact Or.inr ⟨g,c,cur,e1,e2,by rw[bsCn _ (by show g≠bf;exact hne g (by rw[e1];rfl))];exact hh,hc⟩
 ·refine owk h.po ks.toKept (by decide) (fun g hg2 hm2=>?_)
  simp at hm2
  subst hm2
  obtain⟨_,c,f,hc⟩:=owr h.po g hg2
  rw[h.blk]at hc
  simp at hc
theorem osC{b e size n:Nat}{v:Value}{xs:List Value}(h:w.ownsRow b e size v n xs)(p:Addr)(u:Value)(hne:∀ g,v.ownBlock=some g→g≠p.block):(w.setCell p u).ownsRow b e size v n xs:=by
 obtain⟨h1,h2⟩:=h
 refine⟨h1,?_⟩
 rcases h2 with h2 | ⟨g,c,cur,e1,e2,hh,hc⟩
 ·exact Or.inl h2
 ·exact Or.inr ⟨g,c,cur,e1,e2,by rw[Below.heap_setCell _ _ _ _ (hne g (by rw[e1];rfl))];exact hh,hc⟩
theorem stCb(s:ByteArray):Lib.strCells s=byv (bl s):=by
 unfold Lib.strCells byv bl
 rw[List.map_map]
 rfl
def flatB(l:List ByteArray):List Nat:=l.flatMap bl
theorem wpo{bt cap:Nat}{cur:Array Value}{texts:List ByteArray}(h:OutW B bf w ov pv out pl)(hbt:w.heap[bt]?=some (.cells cur 9 (0,0)))(hcur:∀(i:Nat) (x:ByteArray),texts[i]?=some x→cur[i]?=some (.string x))(hcap:texts.length≤cap)(hc2:cap≤1000000)(hlen:out.length+(flatB texts).length≤500000000) :
  Calls Tryz.prog 96 #[.pointer (some ⟨bf,0,none⟩),.slice (some ⟨bt,0,none⟩) texts.length cap] w fun e w'=>e=.returned (.tuple #[])∧∃ ov',OutW B bf w' ov' pv (out++flatB texts) pl∧OutK B bf w w':=by
 obtain⟨i1,gi,gz0,gz1,gz2⟩:=info_parts Tryz.infoByte
 have H:=hide h
 have hne:bt≠bf:=by
  rintro rfl
  rw[h.blk]at hbt
  simp at hbt
 have HBT:=hide hbt
 have HC:=hide hcur
 have HL:=hide hlen
 obtain⟨n,hn⟩:∃ n,texts.length=n:=⟨_,rfl⟩
 have HN:=hide hn
 rw[hn]at hcap ⊢
 clear h hbt hcur hn hlen
 go_enter Tryz.func96,Tryz.ntmps96
 go_wp2
 go_loopw [5,8] (fun _ iv wr=>∃(m:Nat) (v:Value),m≤n∧iv=.int .i64 (m:Int)∧Hid (OutW B bf wr v pv (out++flatB (texts.take m)) pl)∧Hid (OutK B bf w wr)) (fun _ iv _=>n-(intOf iv).toNat)
 case atStart=>exact⟨0,ov,Nat.zero_le _,rfl,by show OutW B bf w ov pv (out++[]) pl;rw[List.append_nil];exact H.o,OutK.refl _ _ _⟩
 case round =>
  obtain⟨m,v,hm,rfl,HW,HK⟩:=hrel
  rcases Nat.eq_or_lt_of_le hm with hm | hm
  ·subst hm
   go_wp2
   go_end0
   refine⟨rfl,v,?_,HK.o⟩
   have:=HW.o
   rw[show texts.take m=texts from List.take_of_length_le (by rw[HN.o];exact Nat.le_refl _)]at this
   exact this
  ·obtain⟨x,hx⟩:∃ x,texts[m]?=some x:=⟨_,List.getElem?_eq_getElem (by rw[HN.o];exact hm)⟩
   have hbr:wr.heap[bt]?=some (.cells cur 9 (0,0)):=HK.o.block bt _ (by simpa using hne) HBT.o (Or.inr fun c fz e=>by cases e)
   have hxc:wr.cell? ⟨bt,m,none⟩=some (.string x):=by rw[ceb hbr];exact HC.o m x hx
   have htk:flatB (texts.take (m+1))=flatB (texts.take m)++bl x:=by unfold flatB;rw[List.take_add_one,hx,List.flatMap_append];simp
   have hle:(flatB (texts.take (m+1))).length≤(flatB texts).length:=by
    unfold flatB
    rw[←List.take_append_drop (m+1) texts,List.flatMap_append,List.length_append]
    simp
   have hlx:(out++flatB (texts.take m)).length+x.size≤500000000:=by
    have:=HL.o
    rw[htk,List.length_append,bll]at hle
    rw[List.length_append];omega
   obtain⟨va,vc,rfl⟩:=ows HW.o.oo
   have hblk:=HW.o.blk
   have HTK:=hide htk
   clear hbr htk hle
   generalize hou:out++flatB (texts.take m)=o1 at *
   have HOU:=hide hou
   clear hou hx
   have c0:wr.cell? ⟨bf,0,none⟩=some (.slice va o1.length vc):=ceb hblk
   have f0:wr.frozen? ⟨bf,0,none⟩=false:=frb hblk
   go_wp2_with (at_builtin;refine wLasw _ rfl (.tmp 16) (.tmp 17) 23 9 rfl B 5 i1 Tryz.underlying23 Tryz.underlying9 gi gz0 gz1 gz2 _ o1.length _ rfl HW.o.oo x rfl ?h63 ?hby ?hbs ?_)
   case h63=>unfold maxLen;omega
   case hby=>omega
   case hbs=>exact HW.o.bw
   intro v6 w6 own6 hg6 hw6
   have hb6:w6.heap[bf]?=some (.cells #[.slice va o1.length vc,pv] 122 (0,0)):=by rw[hg6.block bf (lt_of_block hblk) (fun e=>HW.o.ne bf e.symm rfl)];exact hblk
   rw[stCb]at own6
   have HG:=hide (HW.o.grow (OutK.refl _ _ _) rfl HW.o.oo hg6 hw6 own6 (bll x))
   obtain⟨va6,vc6,hv6⟩:=ows own6
   subst hv6
   have c6:w6.cell? ⟨bf,0,none⟩=some (.slice va o1.length vc):=ceb hb6
   have f6:w6.frozen? ⟨bf,0,none⟩=false:=frb hb6
   clear own6 hg6 hw6 hb6 hblk
   go_wp2
   go_roundw
   case rel=>exact⟨m+1,_,by omega,by first | rfl | (congr 1),by rw[HTK.o,←List.append_assoc,HOU.o];exact HG.o.1,HK.o.trans HG.o.2⟩
   case measure=>simp[intOf];omega
end
end Go.Proofs.YtgkljcmjnphpeaaGreatDoor
