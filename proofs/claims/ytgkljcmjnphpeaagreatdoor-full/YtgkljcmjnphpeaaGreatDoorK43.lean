import Derived.Test.YtgkljcmjnphpeaaGreatDoorK42
set_option linter.unusedVariables false
set_option linter.unusedSimpArgs false
set_option maxHeartbeats 4000000
set_option maxRecDepth 100000
namespace Go.Proofs.YtgkljcmjnphpeaaGreatDoor
open Go.RowKit
section
variable{w w':World}{B bf:Nat}{ov pv:Value}{out pl:List Nat}
theorem Fo.wint_pos(n:Int):0<(Fo.wint n).length:=by
 have h:∀ m,0<(Fo.dec m).length:=fun m=>by
  unfold Fo.dec
  rw[List.length_map,Lib.decDigits]
  split<;>simp
 unfold Fo.wint
 split
 ·simp
 ·exact h _
structure OutM(B bf gm:Nat)(w:World)(ov pv:Value)(out pl:List Nat):Prop where
 hb:B≤bf
 hv:ov=.slice (some ⟨gm,0,none⟩) out.length out.length
 blk:w.heap[bf]?=some (.cells #[ov,pv] 122 (0,0))
 mrk:∃ f,w.heap[gm]?=some (.cells (byv out).toArray 5 f)
 gb:B≤gm
 po:w.ownsRow B 3 1 pv pl.length (pl.map fun x:Nat=>.int .i64 (x:Int))
theorem OutM.lt{gm:Nat}(h:OutM B bf gm w ov pv out pl):bf<w.heap.size:=lt_of_block h.blk
theorem OutM.bw{gm:Nat}(h:OutM B bf gm w ov pv out pl):B≤w.heap.size:=Nat.le_of_lt (Nat.lt_of_le_of_lt h.hb h.lt)
theorem OutM.below{gm:Nat}(h:OutM B bf gm w ov pv out pl)(b:Below w.heap.size w w'):OutM B bf gm w' ov pv out pl:=by
 obtain⟨f,hm⟩:=h.mrk
 exact⟨h.hb,h.hv,(b.block bf h.lt).trans h.blk,⟨f,(b.block gm (lt_of_block hm)).trans hm⟩,h.gb,obW h.po b⟩
theorem OutM.alloc{gm:Nat}(h:OutM B bf gm w ov pv out pl)(o:Obj):OutM B bf gm (w.alloc o) ov pv out pl:=h.below ((Below.refl _ _).alloc (Nat.le_refl _) o)
theorem OutM.drew{gm:Nat}(h:OutM B bf gm w ov pv out pl):OutM B bf gm w.drew ov pv out pl:=⟨h.hb,h.hv,h.blk,h.mrk,h.gb,h.po⟩
theorem OutM.place{gm:Nat}{v:Value}{p:Nat}(h:OutM B bf gm w ov pv out pl)(hv:w'.ownsRow B 3 1 v (pl.length+1) ((pl.map fun x:Nat=>.int .i64 (x:Int))++[.int .i64 (p:Int)]))(hg:w.grownBy w' pv.ownBlock) :
  OutM B bf gm (w'.setCell ⟨bf,1,none⟩ v) ov v out (pl++[p])∧Below B w (w'.setCell ⟨bf,1,none⟩ v):=by
 have hnp:∀ g,pv.ownBlock=some g→g≠bf:=fun g hg=>by
  rintro rfl
  obtain⟨_,c,f,hc⟩:=owr h.po g hg
  rw[h.blk]at hc
  simp at hc
 obtain⟨f,hm⟩:=h.mrk
 have hgb:gm≠bf:=by
  rintro rfl
  rw[h.blk]at hm
  simp at hm
 have hb':w'.heap[bf]?=some (.cells #[ov,pv] 122 (0,0)):=by rw[hg.block bf h.lt (fun e=>hnp bf e.symm rfl)];exact h.blk
 have hb2:(w'.setCell ⟨bf,1,none⟩ v).heap[bf]?=some (.cells #[ov,v] 122 (0,0)):=by rw[bsC _ hb'];rfl
 have hm':w'.heap[gm]?=some (.cells (byv out).toArray 5 f):=by
  rw[hg.block gm (lt_of_block hm) (fun e=>by
   obtain⟨_,c,f',hc⟩:=owr h.po gm e.symm
   rw[hm]at hc
   simp at hc)]
  exact hm
 have hnv:∀ g,v.ownBlock=some g→g≠bf:=fun g hg2=>by
  rintro rfl
  obtain⟨_,c,f,hc⟩:=owr hv g hg2
  rw[hb']at hc
  simp at hc
 refine⟨⟨h.hb,h.hv,hb2,⟨f,by rw[bsCn _ (by show gm≠bf;exact hgb)];exact hm'⟩,h.gb,?_⟩,?_⟩
 ·have:=osC hv ⟨bf,1,none⟩ v hnv
  rw[List.length_append,List.map_append]
  exact this
 ·refine Below.setCell (p:=⟨bf,1,none⟩) ⟨hg.os,hg.tape,hg.output,hg.size,fun k hk=>hg.block k (Nat.lt_of_lt_of_le hk h.bw) (fun e=>?_)⟩ h.hb v
  have:=(owr h.po k e.symm).1
  omega
theorem wpMo{gm bt cap:Nat}{cur:Array Value}{texts:List ByteArray}{S:ByteArray}(h:OutM B bf gm w ov pv out pl)(hbt:w.heap[bt]?=some (.cells cur 9 (0,0)))(hcur:∀(i:Nat) (x:ByteArray),texts[i]?=some x→cur[i]?=some (.string x))(hcap:texts.length≤cap)(hc2:cap≤1000000)(hlen:out.length+(flatB texts).length≤500000000)(h1:texts[0]?=some S)(h10:0<S.size) :
  Calls Tryz.prog 96 #[.pointer (some ⟨bf,0,none⟩),.slice (some ⟨bt,0,none⟩) texts.length cap] w fun e w'=>e=.returned (.tuple #[])∧∃ ov',OutW B bf w' ov' pv (out++flatB texts) pl∧OutK B bf w w':=by
 obtain⟨i1,gi,gz0,gz1,gz2⟩:=info_parts Tryz.infoByte
 have H:=hide h
 have H1:=hide (And.intro h1 h10)
 have htp:0<texts.length:=(List.getElem?_eq_some_iff.1 h1).1
 have hne:bt≠bf:=by
  rintro rfl
  rw[h.blk]at hbt
  simp at hbt
 have HBT:=hide hbt
 have HC:=hide hcur
 have HL:=hide hlen
 obtain⟨n,hn⟩:∃ n,texts.length=n:=⟨_,rfl⟩
 have HN:=hide hn
 rw[hn]at hcap htp ⊢
 clear h hbt hcur hn hlen h1 h10
 go_enter Tryz.func96,Tryz.ntmps96
 go_wp2
 go_loopw [5,8] (fun _ iv wr=>∃(m:Nat) (v:Value),m≤n∧iv=.int .i64 (m:Int)∧Hid ((m=0∧wr=w∧v=ov)∨(0<m∧OutW B bf wr v pv (out++flatB (texts.take m)) pl))∧Hid (OutK B bf w wr)) (fun _ iv _=>n-(intOf iv).toNat)
 case atStart=>exact⟨0,ov,Nat.zero_le _,rfl,Or.inl ⟨rfl,rfl,rfl⟩,OutK.refl _ _ _⟩
 case round =>
  obtain⟨m,v,hm,rfl,HW,HK⟩:=hrel
  rcases HW.o with⟨hm0,hw0,hv0⟩ | ⟨hmp,hOW⟩
  ·subst hm0
   have hw0:=hw0.symm
   subst hw0
   subst hv0
   have hx:=H1.o.1
   have hxc:w.cell? ⟨bt,0,none⟩=some (.string S):=by rw[ceb HBT.o];exact HC.o 0 S hx
   have htk:flatB (texts.take (0+1))=bl S:=by unfold flatB;rw[List.take_add_one,hx];simp
   have hle:(flatB (texts.take (0+1))).length≤(flatB texts).length:=by
    have e:=List.take_append_drop (0+1) texts
    have e2:flatB texts=flatB (texts.take (0+1))++flatB (texts.drop (0+1)):=by
     unfold flatB
     rw[←List.flatMap_append,e]
    rw[e2,List.length_append]
    omega
   have hlx:out.length+S.size≤500000000:=by
    have:=HL.o
    rw[htk,bll]at hle
    omega
   have hblk:=H.o.blk
   have hvv:=H.o.hv
   obtain⟨fm,hmk⟩:=H.o.mrk
   have HTK:=hide htk
   have hS0:=H1.o.2
   obtain⟨on,hon⟩:∃ on,on=out.length:=⟨_,rfl⟩
   have HON:=hide hon
   rw[←hon]at hvv hlx
   subst hvv
   have HMC:Hid (∀(j:Nat) (u:Value),(byv out)[j]?=some u→w.cell? ((⟨gm,0,none⟩:Addr).add j)=some u):=fun j u hu=>by
    rw[aa,ceb hmk]
    simpa using hu
   clear hle htk hx hon
   have c0:w.cell? ⟨bf,0,none⟩=some (.slice (some ⟨gm,0,none⟩) on on):=ceb hblk
   have f0:w.frozen? ⟨bf,0,none⟩=false:=frb hblk
   go_wp2_with (at_builtin;refine wLasf _ rfl (.tmp 16) (.tmp 17) 23 9 rfl B 5 i1 Tryz.underlying23 Tryz.underlying9 gi gz0 gz1 gz2 gm on (byv out) rfl (by rw[HON.o];simp[byv]) HMC.o S rfl hS0 ?h63 ?hby ?hbs ?_)
   case h63=>unfold maxLen;omega
   case hby=>omega
   case hbs=>exact H.o.bw
   intro v6 w6 own6 hg6 hw6
   have hb6:w6.heap[bf]?=some (.cells #[.slice (some ⟨gm,0,none⟩) on on,pv] 122 (0,0)):=by rw[hg6.block bf (lt_of_block hblk) (fun e=>by cases e)];exact hblk
   have k6:OutK B bf w w6:=(OutK.refl B bf w).grown hblk hg6 (fun g e=>by cases e) (fun e=>by cases e) (fun g e=>by cases e)
   have ks:=k6.setV hb6 (fun g e=>Or.inr (hw6 g e))
   have hb7:(w6.setCell ⟨bf,0,none⟩ v6).heap[bf]?=some (.cells #[v6,pv] 122 (0,0)):=by rw[bsC _ hb6];rfl
   have hnb:∀ g,v6.ownBlock=some g→g≠bf:=fun g e=>by have:=hw6 g e;have:=H.o.lt;omega
   have ow7:OutW B bf (w6.setCell ⟨bf,0,none⟩ v6) v6 pv (out++bl S) pl:=by
    refine⟨H.o.hb,hb7,?_,?_⟩
    ·have:=osC own6 ⟨bf,0,none⟩ v6 hnb
     rw[stCb,HON.o]at this
     rw[List.length_append,bll]
     unfold byv at this ⊢
     rw[List.map_append]
     exact this
    ·refine owk H.o.po ks.toKept (by decide) (fun g hg2 hm2=>?_)
     simp at hm2
     subst hm2
     obtain⟨_,c,f,hc⟩:=owr H.o.po g hg2
     rw[hblk]at hc
     simp at hc
   have HG:=hide (And.intro ow7 ks)
   obtain⟨va6,vc6,hv6⟩:=ows own6
   subst hv6
   have c6:w6.cell? ⟨bf,0,none⟩=some (.slice (some ⟨gm,0,none⟩) on on):=ceb hb6
   have f6:w6.frozen? ⟨bf,0,none⟩=false:=frb hb6
   clear own6 hg6 hw6 hb6 hblk k6 ks hb7 hnb ow7 hmk
   go_wp2
   go_roundw
   case rel=>exact⟨0+1,_,by omega,by first | rfl | (congr 1),Or.inr ⟨by omega,by rw[HTK.o];exact HG.o.1⟩,HG.o.2⟩
   case measure=>simp[intOf];omega
  have HW:Hid (OutW B bf wr v pv (out++flatB (texts.take m)) pl):=hOW
  clear hOW
  rcases Nat.eq_or_lt_of_le hm with hm | hm
  ·subst hm
   go_wp2
   go_end0
   refine⟨rfl,v,?_,HK.o⟩
   have:=HW.o
   rw[show texts.take m=texts from List.take_of_length_le (by rw[HN.o];exact Nat.le_refl _)]at this
   exact this
  ·obtain⟨x,hx⟩:∃ x,texts[m]?=some x:=⟨_,List.getElem?_eq_getElem (by rw[HN.o];exact hm)⟩
   have hbr:wr.heap[bt]?=some (.cells cur 9 (0,0)):=HK.o.block bt _ (by simpa using hne) HBT.o (Or.inr fun c fz e=>by cases e)
   have hxc:wr.cell? ⟨bt,m,none⟩=some (.string x):=by rw[ceb hbr];exact HC.o m x hx
   have htk:flatB (texts.take (m+1))=flatB (texts.take m)++bl x:=by unfold flatB;rw[List.take_add_one,hx,List.flatMap_append];simp
   have hle:(flatB (texts.take (m+1))).length≤(flatB texts).length:=by
    unfold flatB
    rw[←List.take_append_drop (m+1) texts,List.flatMap_append,List.length_append]
    simp
   have hlx:(out++flatB (texts.take m)).length+x.size≤500000000:=by
    have:=HL.o
    rw[htk,List.length_append,bll]at hle
    rw[List.length_append];omega
   obtain⟨va,vc,rfl⟩:=ows HW.o.oo
   have hblk:=HW.o.blk
   have HTK:=hide htk
   clear hbr htk hle
   generalize hou:out++flatB (texts.take m)=o1 at *
   have HOU:=hide hou
   clear hou hx
   have c0:wr.cell? ⟨bf,0,none⟩=some (.slice va o1.length vc):=ceb hblk
   have f0:wr.frozen? ⟨bf,0,none⟩=false:=frb hblk
   go_wp2_with (at_builtin;refine wLasw _ rfl (.tmp 16) (.tmp 17) 23 9 rfl B 5 i1 Tryz.underlying23 Tryz.underlying9 gi gz0 gz1 gz2 _ o1.length _ rfl HW.o.oo x rfl ?h63 ?hby ?hbs ?_)
   case h63=>unfold maxLen;omega
   case hby=>omega
   case hbs=>exact HW.o.bw
   intro v6 w6 own6 hg6 hw6
   have hb6:w6.heap[bf]?=some (.cells #[.slice va o1.length vc,pv] 122 (0,0)):=by rw[hg6.block bf (lt_of_block hblk) (fun e=>HW.o.ne bf e.symm rfl)];exact hblk
   rw[stCb]at own6
   have HG:=hide (HW.o.grow (OutK.refl _ _ _) rfl HW.o.oo hg6 hw6 own6 (bll x))
   obtain⟨va6,vc6,hv6⟩:=ows own6
   subst hv6
   have c6:w6.cell? ⟨bf,0,none⟩=some (.slice va o1.length vc):=ceb hb6
   have f6:w6.frozen? ⟨bf,0,none⟩=false:=frb hb6
   clear own6 hg6 hw6 hb6 hblk
   go_wp2
   go_roundw
   case rel=>exact⟨m+1,_,by omega,by first | rfl | (congr 1),Or.inr ⟨by omega,by rw[HTK.o,←List.append_assoc,HOU.o];exact HG.o.1⟩,HK.o.trans HG.o.2⟩
   case measure=>simp[intOf];omega
theorem wM{gm:Nat}(h:OutM B bf gm w ov pv out pl)(S T:ByteArray)(hS0:0<S.size)(hlen:out.length+(S.size+T.size)≤500000000) :
  Calls Tryz.prog 96 #[.pointer (some ⟨bf,0,none⟩),.slice (some ⟨w.heap.size,0,none⟩) 2 2] (w.alloc (.cells #[.string S,.string T] 9)) fun e w'=>e=.returned (.tuple #[])∧∃ ov',OutW B bf w' ov' pv (out++(bl S++bl T)) pl∧OutK B bf w w':=by
 have:=wpMo (S:=S) (texts:=[S,T]) (cap:=2) (h.alloc (.cells #[.string S,.string T] 9)) (bln w _) (fun i x hx=>by
  match i,hx with
  |0,hx=>cases hx;rfl
  |1,hx=>cases hx;rfl
  |i+2,hx=>simp at hx) (by simp) (by decide) (by simp[flatB,bll];omega)
 refine(this rfl hS0).mono ?_
 rintro e w' ⟨rfl,ov',h1,h2⟩
 refine⟨rfl,ov',?_,((OutK.refl B bf w).alloc _).trans h2⟩
 simpa[flatB]using h1
theorem wMo{E gm:Nat}{R:List Nat→Prop}{L:Nat}{n:Int}{kd nn pp:Int}{tx:ByteArray}{ia ka fa:Option Addr}{ni ic nk kc nf fc:Nat}(he:Env E w)(hR:∀ more,R more→more.length≤L)(hEB:E≤B)(h:OutM B bf gm w ov pv out pl)(hn1 : -9223372036854775808≤n)(hn2:n≤9223372036854775807)(hpl:pl.length≤1000000)(hlen:out.length+100+L≤500000000)
  (hbody:∀(W:World) (o1 p1:Value),OutW B bf W o1 p1 (out++Fo.wohead n) (pl++[out.length])→Below B w W→Calls Tryz.prog (bif kd==8 then 131 else 132) #[.pointer (some ⟨bf,0,none⟩),.agg #[.int .i64 kd,.int .i64 nn,.int .i64 pp,.string tx,.slice ia ni ic,.slice ka nk kc,.slice fa nf fc]] W fun e w'=>∃ more,R more∧WrOut B bf W p1 (out++Fo.wohead n) (pl++[out.length]) more e w') :
  Calls Tryz.prog 93 #[.pointer (some ⟨bf,0,none⟩),.int .i64 n,.agg #[.int .i64 kd,.int .i64 nn,.int .i64 pp,.string tx,.slice ia ni ic,.slice ka nk kc,.slice fa nf fc]] w fun e w'=>e=.returned (.tuple #[])∧∃ more o1 p1,R more∧OutW B bf w' o1 p1 (out++(Fo.wohead n++(more++[10,101,110,100,111,98,106,10]))) (pl++[out.length])∧Below B w w':=by
 obtain⟨i0,hi,hz0,hz1,hz2⟩:=info_parts iIY
 obtain⟨pa,pc,hpv⟩:=ows h.po
 subst hpv
 obtain⟨va,vc,hov⟩:∃ va vc,ov=.slice va out.length vc:=⟨_,_,h.hv⟩
 subst hov
 have h1:=h.alloc (.cells #[.int .i64 kd,.int .i64 nn,.int .i64 pp,.string tx,.slice ia ni ic,.slice ka nk kc,.slice fa nf fc] 67)
 have b1:Below B w (w.alloc (.cells #[.int .i64 kd,.int .i64 nn,.int .i64 pp,.string tx,.slice ia ni ic,.slice ka nk kc,.slice fa nf fc] 67)):=(Below.refl _ _).alloc h.bw _
 have hx0:(w.alloc (.cells #[.int .i64 kd,.int .i64 nn,.int .i64 pp,.string tx,.slice ia ni ic,.slice ka nk kc,.slice fa nf fc] 67)).heap[w.heap.size]?=some (.cells #[.int .i64 kd,.int .i64 nn,.int .i64 pp,.string tx,.slice ia ni ic,.slice ka nk kc,.slice fa nf fc] 67 (0,0)):=bln _ _
 have HXB:Hid (bf<w.heap.size):=h.lt
 go_enter Tryz.func93,Tryz.ntmps93
 go_wp2_with fail
 generalize hW1:w.alloc (.cells #[.int .i64 kd,.int .i64 nn,.int .i64 pp,.string tx,.slice ia ni ic,.slice ka nk kc,.slice fa nf fc] 67)=w1 at *
 have c0:w1.cell? ⟨bf,0,none⟩=some (.slice va out.length vc):=ceb h1.blk
 have c1:w1.cell? ⟨bf,1,none⟩=some (.slice pa pl.length pc):=ceb h1.blk
 have H1:=hide h1
 have hB1:B≤w1.heap.size:=h1.bw
 have HB6:Hid (∀ W,(w1.drew.alloc (.cells #[.int .i64 (out.length:Int)] 3)).grownBy W (Value.slice pa pl.length pc).ownBlock→W.heap[bf]?=some (.cells #[.slice va out.length vc,.slice pa pl.length pc] 122 (0,0))):=fun W hg=>by
  have ha:=h1.drew.alloc (.cells #[.int .i64 (out.length:Int)] 3)
  rw[hg.block bf ha.lt (fun e=>by
   obtain⟨_,c,f,hc⟩:=owr ha.po bf e.symm
   rw[ha.blk]at hc
   simp at hc)]
  exact ha.blk
 have HX6:Hid (∀ W,(w1.drew.alloc (.cells #[.int .i64 (out.length:Int)] 3)).grownBy W (Value.slice pa pl.length pc).ownBlock→W.heap[w.heap.size]?=some (.cells #[.int .i64 kd,.int .i64 nn,.int .i64 pp,.string tx,.slice ia ni ic,.slice ka nk kc,.slice fa nf fc] 67 (0,0))):=fun W hg=>by
  have ha:=h1.drew.alloc (.cells #[.int .i64 (out.length:Int)] 3)
  have hx1:(w1.drew.alloc (.cells #[.int .i64 (out.length:Int)] 3)).heap[w.heap.size]?=some (.cells #[.int .i64 kd,.int .i64 nn,.int .i64 pp,.string tx,.slice ia ni ic,.slice ka nk kc,.slice fa nf fc] 67 (0,0)):=bla _ hx0
  rw[hg.block _ (lt_of_block hx1) (fun e=>by
   obtain⟨_,c,f,hc⟩:=owr ha.po _ e.symm
   rw[hx1]at hc
   simp at hc)]
  exact hx1
 have c1a:(w1.alloc (.cells #[.int .i64 (out.length:Int)] 3)).cell? ⟨bf,1,none⟩=some (.slice pa pl.length pc):=by rw[ceb (h1.alloc _).blk];rfl
 clear h1 h
 go_region_law (refine sao rfl (.tmp 10) (.tmp 16) 52 rfl B 3 i0 (.int .i64 0) 1 8 Tryz.underlying52 hi hz0 hz1 hz2 rfl (by decide) (.slice pa pl.length pc) pl.length _ rfl (H1.o.drew.alloc _).po ⟨w1.heap.size,0,none⟩ 1 1 [.int .i64 (out.length:Int)] rfl rfl ?hnews ?hone ?h63 ?hby ?hb ?_;(case hnews=>exact newsI);(case hone=>intro u hu;simp at hu;subst hu;rfl);(case h63=>unfold maxLen;omega);(case hby=>omega);(case hb=>simp;omega);intro v6 w6 own6 hg6 _;have HG:=hide ((H1.o.drew.alloc (.cells #[.int .i64 (out.length:Int)] 3)).place own6 hg6);have hb6:w6.heap[bf]?=some (.cells #[.slice va out.length vc,.slice pa pl.length pc] 122 (0,0)):=HB6.o w6 hg6;have HX:=hide (HX6.o w6 hg6);have c6:w6.cell? ⟨bf,1,none⟩=some (.slice pa pl.length pc):=(ceb hb6);have f6:w6.frozen? ⟨bf,1,none⟩=false:=frb hb6;obtain⟨a6,e6,hv6⟩:=ows own6;subst hv6;clear own6 hg6 hb6)
 all_goals (
  have hx2:(w6.setCell ⟨bf,1,none⟩ (.slice a6 (pl.length+1) e6)).heap[w.heap.size]?=some (.cells #[.int .i64 kd,.int .i64 nn,.int .i64 pp,.string tx,.slice ia ni ic,.slice ka nk kc,.slice fa nf fc] 67 (0,0)):=by rw[bsCn _ (by have:=HXB.o;omega)];exact HX.o
  have h2:=HG.o.1
  have b2:Below B w (w6.setCell ⟨bf,1,none⟩ (.slice a6 (pl.length+1) e6)):=((b1.drew.alloc (by exact hB1) _).trans HG.o.2)
  clear HG HX c6 f6
  go_wp2_with fail
  generalize hW2:w6.setCell ⟨bf,1,none⟩ (.slice a6 (pl.length+1) e6)=w2 at *
  refine(wio (he.low (b2.mono hEB)) (Nat.le_trans hEB h2.bw) n hn1 hn2).mono ?_
  rintro e w3 ⟨S,rfl,hS,b3⟩
  have hsl:S.size≤20:=by rw[←bll,hS];exact Fo.wint_len hn1 hn2
  have HP:=hide (wM (h2.below b3) S { data:=#[32,48,32,111,98,106,10] } (by rw[←bll,hS];exact Fo.wint_pos n) (by show _+(_+7)≤_;omega))
  rw[hS]at HP
  have hx3:w3.heap[w.heap.size]?=_:=(b3.block _ (lt_of_block hx2)).trans hx2
  have B3:=hide (b2.trans (b3.mono h2.bw))
  have hbw3:B≤w3.heap.size:=(h2.below b3).bw
  clear hS b3 h2 b2 hx2 hW2 hx0 c0 c1 c1a
  go_wp2_with fail
  refine HP.o.mono ?_
  rintro e w4 ⟨rfl,o4,h4,k4⟩
  have hx4:w4.heap[w.heap.size]?=_:=k4.block _ _ (by simp;have:=HXB.o;omega) hx3 (Or.inr fun c fz e=>by cases e)
  have b4:Below B w w4:=B3.o.trans (Kept.below k4.toKept hbw3 (fun g hg=>by simp at hg;subst hg;exact h4.hb))
  have HB:=hide (hbody w4 o4 _ h4 b4)
  have B4:=hide b4
  have hbw4:=h4.bw
  have d0:w4.cell? ⟨w.heap.size,0,none⟩=some (.int .i64 kd):=ceb hx4
  have d1:w4.cell? ⟨w.heap.size,1,none⟩=some (.int .i64 nn):=ceb hx4
  have d2:w4.cell? ⟨w.heap.size,2,none⟩=some (.int .i64 pp):=ceb hx4
  have d3:w4.cell? ⟨w.heap.size,3,none⟩=some (.string tx):=ceb hx4
  have d4:w4.cell? ⟨w.heap.size,4,none⟩=some (.slice ia ni ic):=ceb hx4
  have d5:w4.cell? ⟨w.heap.size,5,none⟩=some (.slice ka nk kc):=ceb hx4
  have d6:w4.cell? ⟨w.heap.size,6,none⟩=some (.slice fa nf fc):=ceb hx4
  clear hx3 hx4 k4 h4 b4 HP hbody
  cases hk:(kd==8)
  all_goals
   rw[hk]at HB
   go_wp2_with fail
   refine HB.o.mono ?_
   rintro e w5 ⟨more,hm,rfl,o5,h5,k5⟩
   have hml:=hR more hm
   have HM:=hide hm
   have hwl:=Fo.wint_len hn1 hn2
   have HP:=hide (wput1 h5 { data:=#[10,101,110,100,111,98,106,10] } (by show _+8≤_;unfold Fo.wohead;simp only[List.length_append,List.length_cons,List.length_nil];omega))
   have B5:=hide (B4.o.trans (Kept.below k5.toKept hbw4 (fun g hg=>by simp at hg;subst hg;exact h5.hb)))
   have hbw5:=h5.bw
   clear h5 k5 HB d0 d1 d2 d3 d4 d5 d6
   go_wp2_with fail
   refine HP.o.mono ?_
   rintro e w7 ⟨rfl,o7,h7,k7⟩
   have H7:=hide h7
   have B7:=hide (B5.o.trans (Kept.below k7.toKept hbw5 (fun g hg=>by simp at hg;subst hg;exact h7.hb)))
   clear h7 k7 HP
   go_wp2
   go_end0
   have h9:=H7.o
   rw[List.append_assoc,List.append_assoc]at h9
   exact⟨rfl,more,o7,_,HM.o,h9,B7.o⟩)
end
theorem cm{w:World}{g n c:Nat}{cur:Array Value}{f:Nat × Nat}(hg:w.heap[g]?=some (.cells cur 5 f)):∃ W',(convert 23 23 (.slice (some ⟨g,0,none⟩) n c)).run Tryz.prog w=.ok (.slice (some ⟨g,0,none⟩) n c) W'∧(∃ f',W'.heap[g]?=some (.cells cur 5 f'))∧Only g w W'∧W'.heap.size=w.heap.size:=by
 refine⟨w.freeze ⟨g,cur.size,none⟩ 1,?_,?_,?_,by unfold World.freeze;simp⟩
 ·have h1:w.shape? g=some (5,cur.size):=by unfold World.shape?;rw[hg]
  simp[convert,run_underlying Tryz.underlying23,run_underlying Tryz.underlying5,markStringish,h1]
 ·unfold World.freeze
  obtain⟨lo,hi⟩:=f
  simp[Array.getElem?_modify,hg]
 ·refine⟨rfl,rfl,rfl,?_,?_⟩
  ·unfold World.freeze;simp
  ·intro k hk hne
   unfold World.freeze
   simp[Array.getElem?_modify,Ne.symm hne]
section
variable{w w':World}
def FR(EE:Nat→List Nat→List Nat→Prop)(j:Nat)(Ys:List (VT (j+3)))(root:Int)(w:World)(e:Ending)(w':World):Prop:=
 ∃ v out ms,e=.returned v∧w'.ownsRow w.heap.size 5 1 v out.length (byv out)∧Below w.heap.size w w'∧Bodies EE j Ys ms∧((ms.length=Ys.length∧out=Fo.wfile ms root)∨(200000<out.length∧out=Fo.whead++Fo.wbody ms 1))
structure FlI(EE:Nat→List Nat→List Nat→Prop)(j:Nat)(Ys:List (VT (j+3)))(w w0:World)(ms:List (List Nat))(ov pv:Value)(W:World):Prop where
 ow:(ms=[]∧OutM (w.heap.size+1) (w.heap.size+2) (w.heap.size+1) W ov pv Fo.whead [])∨(ms≠[]∧OutW (w.heap.size+1) (w.heap.size+2) W ov pv (Fo.whead++Fo.wbody ms 1) (Fo.wplaces ms 9 1))
 bel:Below (w.heap.size+1) w0 W
 bod:Bodies EE j Ys ms
 sm:(Fo.whead++Fo.wbody ms 1).length≤200000
theorem Fo.whead_obj(ms:List (List Nat))(x:List Nat):Fo.whead++Fo.wbody (ms++[x]) 1=(Fo.whead++Fo.wbody ms 1)++(Fo.wohead ((ms.length:Int)+1)++(x++[10,101,110,100,111,98,106,10])):=by
 rw[Fo.wbody_snoc,Fo.wobj,←List.append_assoc]
 have:((1+ms.length:Nat):Int)=(ms.length:Int)+1:=by omega
 rw[this]
theorem Fo.whead_place(ms:List (List Nat))(x:List Nat):Fo.wplaces (ms++[x]) 9 1=Fo.wplaces ms 9 1++[(Fo.whead++Fo.wbody ms 1).length]:=by
 rw[Fo.wplaces_snoc,List.length_append]
 rfl
theorem Fo.wlines_len:∀(l:List Nat),(∀ p∈l,p<10^10)→(l.flatMap Fo.wline).length=20*l.length
 | [],_=>rfl
 |p::l,h=>by
  rw[List.flatMap_cons,List.length_append,Fo.wline_len p (h p (List.mem_cons_self ..)),Fo.wlines_len l (fun q hq=>h q (List.mem_cons_of_mem _ hq)),List.length_cons]
  omega
theorem wbc{j Ev M B bf:Nat}{EE:Nat→List Nat→List Nat→Prop}(hE:EncBy EE M)(hM0:M≤1000000){W:World}{o1 p1:Value}{out pl:List Nat}(he:Env Ev W)(hEB:Ev≤B)(h:OutW B bf W o1 p1 out pl){P:Nat→Prop}{V:Node (VT (j+2))}{v:Value}(hv:VIn P (j+3) W v V)(hok:ObjOk M j V)(hlen:out.length≤300000) :
  Calls Tryz.prog (bif ((V.kind:Int)==8)then 131 else 132) #[.pointer (some ⟨bf,0,none⟩),v] W fun e w'=>∃ more,BO EE j V more∧WrOut B bf W p1 out pl more e w':=by
 have hl:=hok.len
 by_cases h8:V.kind=8
 ·obtain⟨fs,hs,hm,hm1⟩:=hok.str h8
  have hm:2^fs.length*(V.text.length+36)≤2*M:=hm
  have hm1:V.text.length≤M:=hm1
  have e8:((V.kind:Int)==8)=true:=by rw[h8];rfl
  rw[e8]
  refine(wo1 hE hM0 he hEB h hv hs hm hm1 (by omega)).mono ?_
  rintro e w' ⟨more,⟨d,h1,h2,h3,rfl⟩,hw⟩
  refine⟨_,Or.inl ⟨h8,d,h1,?_,h3,rfl⟩,hw⟩
  show d.length+36≤2^V.filters.length*_
  rw[hs.fil,List.length_map]
  exact h2
 ·have e8:((V.kind:Int)==8)=false:=by
   have:¬ ((V.kind:Int)=8):=by omega
   simpa using this
  rw[e8]
  refine(wvo (j+3) B bf Ev W o1 p1 out pl P v V he hEB h hv (hok.val h8) (by omega)).mono ?_
  intro e w' hw
  exact⟨_,Or.inr ⟨h8,rfl⟩,hw⟩
theorem wo4{j Ev M:Nat}{EE:Nat→List Nat→List Nat→Prop}(hE:EncBy EE M)(hM0:M≤1000000)(he:Env Ev w)(hEw:Ev≤w.heap.size){P:Nat→Prop}{Ys:List (VT (j+3))}{ovs:Value}{root:Int}(hO:Vals P (j+3) 0 Ys w ovs)(hn0:1≤Ys.length)(hn:Ys.length≤100000)(hok:∀ y∈Ys,ObjOk M j y)(hr : -9223372036854775808≤root∧root≤9223372036854775807) :
  Calls Tryz.prog 62 #[.agg #[ovs,.int .i64 root]] w (FR EE j Ys root w):=by
 obtain⟨oa,oc,rfl⟩:=hO.len
 have HO:Hid (Vals (fun g=>g<w.heap.size) (j+3) 0 Ys w _):=hO.mono (fun g _ h=>h)
 have HOK:=hide hok
 have HE:=hide hE
 have HEV:=hide he
 have HRT:=hide hr
 obtain⟨N,hN⟩:∃ N,Ys.length=N:=⟨_,rfl⟩
 have HN:=hide hN
 rw[hN]at hn hn0 ⊢
 rw[hN]at HO
 have xa:=bln w (.cells #[.slice oa N oc,.int .i64 root] 31)
 have xb:=bln (w.alloc (.cells #[.slice oa N oc,.int .i64 root] 31)) (.cells #[.int .u8 37,.int .u8 80,.int .u8 68,.int .u8 70,.int .u8 45,.int .u8 49,.int .u8 46,.int .u8 52,.int .u8 10] 5)
 rw[World.size_alloc]at xb
 have bb:Below w.heap.size w ((w.alloc (.cells #[.slice oa N oc,.int .i64 root] 31)).alloc (.cells #[.int .u8 37,.int .u8 80,.int .u8 68,.int .u8 70,.int .u8 45,.int .u8 49,.int .u8 46,.int .u8 52,.int .u8 10] 5)):=((Below.refl _ _).alloc (Nat.le_refl _) _).alloc (by simp) _
 obtain⟨WC,hcv,⟨fm,hmk⟩,oC,hsC⟩:=cm (n:=9) (c:=9) xb
 have xa2:=(oC.block w.heap.size (by simp;omega) (by omega)).trans (bla _ xa)
 have bC:Below w.heap.size w WC:=bb.trans ⟨oC.os,oC.tape,oC.output,oC.size,fun k hk=>oC.block k (by simp;omega) (by omega)⟩
 simp only[World.size_alloc]at hsC
 have hsC:WC.heap.size=w.heap.size+2:=hsC
 clear xa xb bb oC hO hok hE he hN hr
 have xD:=bln WC (.cells #[.slice (some ⟨w.heap.size+1,0,none⟩) 9 9,.slice none 0 0] 122)
 rw[hsC]at xD
 have HM:Hid (OutM (w.heap.size+1) (w.heap.size+2) (w.heap.size+1) (WC.alloc (.cells #[.slice (some ⟨w.heap.size+1,0,none⟩) 9 9,.slice none 0 0] 122)) (.slice (some ⟨w.heap.size+1,0,none⟩) 9 9) (.slice none 0 0) Fo.whead []):=
  ⟨by omega,rfl,xD,⟨fm,bla _ hmk⟩,Nat.le_refl _,World.ownsRow_nil _ _ _ _⟩
 have xa3:=bla (.cells #[.slice (some ⟨w.heap.size+1,0,none⟩) 9 9,.slice none 0 0] 122) xa2
 have bD:Below w.heap.size w (WC.alloc (.cells #[.slice (some ⟨w.heap.size+1,0,none⟩) 9 9,.slice none 0 0] 122)):=bC.alloc (by omega) _
 have HXA:=hide xa3
 have HBD:=hide bD
 have hc0:(WC.alloc (.cells #[.slice (some ⟨w.heap.size+1,0,none⟩) 9 9,.slice none 0 0] 122)).cell? ⟨w.heap.size,0,none⟩=some (.slice oa N oc):=ceb xa3
 clear xa2 bC xD xa3 bD hmk
 go_enter Tryz.func62,Tryz.ntmps62
 go_wp2_with fail
 generalize hWD:WC.alloc (.cells #[.slice (some ⟨w.heap.size+1,0,none⟩) 9 9,.slice none 0 0] 122)=WD at *
 have HFI:Hid (FlI EE j Ys w WD [] (.slice (some ⟨w.heap.size+1,0,none⟩) 9 9) (.slice none 0 0) WD):=⟨Or.inl ⟨rfl,HM.o⟩,Below.refl _ _,⟨Nat.zero_le _,fun i x y hx _=>by simp at hx⟩,by simp[Fo.whead,Fo.wbody]⟩
 clear hcv hWD hsC HM hc0
 go_loopw [14] (fun iv wr=>∃(m:Nat) (ms:List (List Nat)) (ov pv:Value),m≤N∧iv=.int .i64 (m:Int)∧ms.length=m∧Hid (FlI EE j Ys w WD ms ov pv wr)) (fun iv _=>N-(intOf iv).toNat)
 case atStart=>exact⟨0,[],_,_,Nat.zero_le _,rfl,rfl,HFI⟩
 case round =>
  obtain⟨m,ms,ov,pv,hm,rfl,hms,HF⟩:=hrel
  have HB:Hid (Below w.heap.size w wr):=HBD.o.trans (HF.o.bel.mono (Nat.le_succ _))
  have hxa:wr.heap[w.heap.size]?=some (.cells #[.slice oa N oc,.int .i64 root] 31 (0,0)):=(HF.o.bel.block _ (Nat.lt_succ_self _)).trans HXA.o
  have hbw1:w.heap.size+1≤wr.heap.size:=lt_of_block hxa
  rcases Nat.eq_or_lt_of_le hm with hm | hm
  ·subst hm
   have hW:OutW (w.heap.size+1) (w.heap.size+2) wr ov pv (Fo.whead++Fo.wbody ms 1) (Fo.wplaces ms 9 1):=by
    rcases HF.o.ow with⟨h0,_⟩ | ⟨_,h⟩
    ·rw[h0]at hms;simp at hms;omega
    ·exact h
   have hsm:=HF.o.sm
   have hpl:(Fo.wplaces ms 9 1).length=m:=by rw[Fo.wplaces_length,hms]
   have hplt:∀ p∈Fo.wplaces ms 9 1,p<10^10:=fun p hp=>by
    have h1:=Fo.wplaces_lt ms 9 1 p hp
    have h2:(Fo.whead++Fo.wbody ms 1).length=9+(Fo.wbody ms 1).length:=by rw[List.length_append];rfl
    omega
   obtain⟨oa4,oc4,ho4⟩:=ows hW.oo
   subst ho4
   have hblk:=hW.blk
   obtain⟨L4,hL4⟩:∃ L4,L4=(Fo.whead++Fo.wbody ms 1).length:=⟨_,rfl⟩
   rw[←hL4]at hblk
   have c0:wr.cell? ⟨w.heap.size+2,0,none⟩=some (.slice oa4 L4 oc4):=ceb hblk
   have hL4s:L4≤200000:=by rw[hL4];exact hsm
   have hEv:Env Ev wr:=HEV.o.low (HB.o.mono hEw)
   have HC:=hide (wo_2 hEv (Nat.le_succ_of_le hEw) hW hplt (by rw[hpl];omega))
   have HWW:=hide hW
   have HL4:=hide hL4
   have HPL:=hide hpl
   have HMS:=hide hms
   have HXA4:=hide hxa
   have HPLT:=hide hplt
   clear hW hsm hpl hplt hblk hL4 hEv hxa hms
   go_wp2_with fail
   refine HC.o.mono ?_
   rintro e w6 ⟨rfl,ov6,h6,k6⟩
   have hxa6:=k6.block w.heap.size _ (by simp) HXA4.o (Or.inr fun c fz e=>by cases e)
   have c1:w6.cell? ⟨w.heap.size,1,none⟩=some (.int .i64 root):=ceb hxa6
   have K6:=hide k6
   have b6:Below w.heap.size w w6:=HB.o.trans ((Kept.below k6.toKept hbw1 (fun g hg=>by simp at hg;subst hg;omega)).mono (Nat.le_succ _))
   have hTL:(Fo.wtable (Fo.wplaces ms 9 1)).length≤100+20*m:=by
    unfold Fo.wtable
    rw[List.length_append]
    have h1:((Fo.wplaces ms 9 1).flatMap Fo.wline).length=20*m:=by
     rw[Fo.wlines_len _ HPLT.o,HPL.o]
    have h2:=Fo.wint_len (n:=((Fo.wplaces ms 9 1).length:Int)+1) (by omega) (by rw[HPL.o];omega)
    unfold Fo.wthead
    simp only[List.length_append,List.length_cons,List.length_nil]
    omega
   have hT:=hide (wto (root:=root) (HEV.o.low (b6.mono hEw)) (Nat.le_succ_of_le hEw) h6 (by rw[HPL.o];omega) HRT.o (by rw[List.length_append,←HL4.o];omega))
   have B6:=hide b6
   have hl6:((Fo.whead++Fo.wbody ms 1)++Fo.wtable (Fo.wplaces ms 9 1)).length≤300000+20*m:=by rw[List.length_append,←HL4.o];omega
   have HL6:=hide hl6
   have hbw6:=k6.size
   clear h6 k6 hxa6 b6 HC hTL hl6 c0
   go_wp2_with fail
   refine hT.o.mono ?_
   rintro e w7 ⟨rfl,ov7,h7,k7⟩
   have b7:Below w.heap.size w w7:=B6.o.trans ((Kept.below k7.toKept (by omega) (fun g hg=>by simp at hg;subst hg;omega)).mono (Nat.le_succ _))
   have HIT:=hide (wio (HEV.o.low (b7.mono hEw)) (Nat.le_trans hEw b7.size) (L4:Int) (by omega) (by omega))
   have H7:=hide h7
   have B7:=hide b7
   clear h7 k7 b7 hT c1
   go_wp2_with fail
   refine HIT.o.mono ?_
   rintro e w8 ⟨S,rfl,hS,b8⟩
   have hsl:S.size≤20:=by rw[←bll,hS];exact Fo.wint_len (by omega) (by omega)
   have HP:=hide (wput3 (H7.o.below b8) { data:=#[115,116,97,114,116,120,114,101,102,10] } S { data:=#[10,37,37,69,79,70,10] } (by
    show _+(10+(_+7))≤_
    have h1:=HL6.o
    have h2:(Fo.wtrail (((Fo.wplaces ms 9 1).length:Int)+1) root).length≤200:=by
     have h3:=Fo.wint_len (n:=((Fo.wplaces ms 9 1).length:Int)+1) (by omega) (by rw[HPL.o];omega)
     have h4:=Fo.wint_len (n:=root) HRT.o.1 HRT.o.2
     unfold Fo.wtrail
     simp only[List.length_append,List.length_cons,List.length_nil]
     omega
    rw[List.length_append]
    omega))
   have B8:=hide (B7.o.trans (b8.mono B7.o.size))
   have HSS:=hide hS
   have hbw8:=b8.size
   have hbw7:=(H7.o).bw
   clear b8 hS HIT H7
   go_wp2_with fail
   refine HP.o.mono ?_
   rintro e w9 ⟨rfl,ov9,h9,k9⟩
   obtain⟨oa9,oc9,ho9⟩:=ows h9.oo
   subst ho9
   have hblk9:=h9.blk
   generalize hO9:(Fo.whead++Fo.wbody ms 1++Fo.wtable (Fo.wplaces ms 9 1)++Fo.wtrail (((Fo.wplaces ms 9 1).length:Int)+1) root)++(bl { data:=#[115,116,97,114,116,120,114,101,102,10] }++(bl S++bl { data:=#[10,37,37,69,79,70,10] }))=O9 at *
   have c9:w9.cell? ⟨w.heap.size+2,0,none⟩=some (.slice oa9 O9.length oc9):=ceb hblk9
   have H9:=hide h9
   have B9:=hide (B8.o.trans ((Kept.below k9.toKept (by omega) (fun g hg=>by simp at hg;subst hg;omega)).mono (Nat.le_succ _)))
   have HO9:=hide hO9
   clear h9 k9 hblk9 hO9 HP
   go_wp2
   go_ret
   refine⟨_,O9,ms,rfl,oRb H9.o.oo (Nat.le_succ _),B9.o,HF.o.bod,Or.inl ⟨by rw[HMS.o,HN.o],?_⟩⟩
   rw[←HO9.o]
   unfold Fo.wfile
   rw[HSS.o,HL4.o,Fo.wplaces_length]
   simp only[List.append_assoc]
   rfl
  ·obtain⟨y,hy⟩:∃ y,Ys[m]?=some y:=⟨_,List.getElem?_eq_getElem (by rw[HN.o];exact hm)⟩
   change Node (VT (j+2))at y
   obtain⟨g,c,x,hge,_,_,hx,hxc⟩:=(HO.o.keep HB.o).at hy
   rw[HN.o]at hge
   cases hge
   obtain⟨ja,jc,ka,kc,fa,fc,hxf,_⟩:=VIn.split (k:=j+2) hx
   subst hxf
   have d0:wr.cell? ⟨g,m*7,none⟩=some (.int .i64 (y.kind:Int)):=hxc 0 _ rfl
   have d1:wr.cell? ⟨g,m*7+1,none⟩=some (.int .i64 y.n):=hxc 1 _ rfl
   have d2:wr.cell? ⟨g,m*7+2,none⟩=some (.int .i64 (y.places:Int)):=hxc 2 _ rfl
   have d3:wr.cell? ⟨g,m*7+3,none⟩=some (.string (strN y.text)):=hxc 3 _ rfl
   have d4:wr.cell? ⟨g,m*7+4,none⟩=some (.slice ja y.items.length jc):=hxc 4 _ rfl
   have d5:wr.cell? ⟨g,m*7+5,none⟩=some (.slice ka y.keys.length kc):=hxc 5 _ rfl
   have d6:wr.cell? ⟨g,m*7+6,none⟩=some (.slice fa y.filters.length fc):=hxc 6 _ rfl
   have HYO:Hid (ObjOk M j y):=HOK.o y (List.mem_of_getElem? hy)
   have HX:Hid (VIn (fun g=>g<w.heap.size) (j+3) wr _ y):=hx
   have HY:=hide hy
   have HBW:Hid (∀ W:World,Below (w.heap.size+1) (wr.alloc (.cells #[.int .i64 (y.kind:Int),.int .i64 y.n,.int .i64 (y.places:Int),.string (strN y.text),.slice ja y.items.length jc,.slice ka y.keys.length kc,.slice fa y.filters.length fc] 67)) W→Below w.heap.size w W):=fun W b=>(HB.o.alloc HB.o.size _).trans (b.mono (Nat.le_succ _))
   have HBD2:Hid (∀(W:World) (o1 p1:Value),OutW (w.heap.size+1) (w.heap.size+2) W o1 p1 ((Fo.whead++Fo.wbody ms 1)++Fo.wohead ((m:Int)+1)) (Fo.wplaces ms 9 1++[(Fo.whead++Fo.wbody ms 1).length])→Below (w.heap.size+1) (wr.alloc (.cells #[.int .i64 (y.kind:Int),.int .i64 y.n,.int .i64 (y.places:Int),.string (strN y.text),.slice ja y.items.length jc,.slice ka y.keys.length kc,.slice fa y.filters.length fc] 67)) W→Calls Tryz.prog (bif ((y.kind:Int)==8)then 131 else 132) #[.pointer (some ⟨w.heap.size+2,0,none⟩),.agg #[.int .i64 (y.kind:Int),.int .i64 y.n,.int .i64 (y.places:Int),.string (strN y.text),.slice ja y.items.length jc,.slice ka y.keys.length kc,.slice fa y.filters.length fc]] W fun e w'=>∃ more,BO EE j y more∧WrOut (w.heap.size+1) (w.heap.size+2) W p1 ((Fo.whead++Fo.wbody ms 1)++Fo.wohead ((m:Int)+1)) (Fo.wplaces ms 9 1++[(Fo.whead++Fo.wbody ms 1).length]) more e w'):=fun W o1 p1 ho hb=>by
    have hb2:=HBW.o W hb
    refine wbc HE.o hM0 (HEV.o.low (hb2.mono hEw)) (Nat.le_succ_of_le hEw) ho (HX.o.keep _ (fun g hg _=>?_)) HYO.o ?_
    ·rw[hb2.block g hg,HB.o.block g hg]
    ·have h1:=HF.o.sm
     have h2:=Fo.wint_len (n:=(m:Int)+1) (by omega) (by omega)
     rw[List.length_append]
     unfold Fo.wohead
     simp only[List.length_append,List.length_cons,List.length_nil]at h1 ⊢
     omega
   have HLN:Hid (∀ more,BO EE j y more→more.length≤102100000):=fun more hm=>HYO.o.body hM0 hm
   have hpl:(Fo.wplaces ms 9 1).length=m:=by rw[Fo.wplaces_length,hms]
   have hsm:=HF.o.sm
   have HCALL:Hid (Calls Tryz.prog 93 #[.pointer (some ⟨w.heap.size+2,0,none⟩),.int .i64 ((m:Int)+1),.agg #[.int .i64 (y.kind:Int),.int .i64 y.n,.int .i64 (y.places:Int),.string (strN y.text),.slice ja y.items.length jc,.slice ka y.keys.length kc,.slice fa y.filters.length fc]] (wr.alloc (.cells #[.int .i64 (y.kind:Int),.int .i64 y.n,.int .i64 (y.places:Int),.string (strN y.text),.slice ja y.items.length jc,.slice ka y.keys.length kc,.slice fa y.filters.length fc] 67)) fun e w'=>e=.returned (.tuple #[])∧∃ more o1 p1,BO EE j y more∧OutW (w.heap.size+1) (w.heap.size+2) w' o1 p1 ((Fo.whead++Fo.wbody ms 1)++(Fo.wohead ((m:Int)+1)++(more++[10,101,110,100,111,98,106,10]))) (Fo.wplaces ms 9 1++[(Fo.whead++Fo.wbody ms 1).length])∧Below (w.heap.size+1) (wr.alloc (.cells #[.int .i64 (y.kind:Int),.int .i64 y.n,.int .i64 (y.places:Int),.string (strN y.text),.slice ja y.items.length jc,.slice ka y.keys.length kc,.slice fa y.filters.length fc] 67)) w'):=by
    have hbw:=HB.o.size
    have hEv:Env Ev (wr.alloc (.cells #[.int .i64 (y.kind:Int),.int .i64 y.n,.int .i64 (y.places:Int),.string (strN y.text),.slice ja y.items.length jc,.slice ka y.keys.length kc,.slice fa y.filters.length fc] 67)):=HEV.o.low ((HB.o.alloc HB.o.size _).mono hEw)
    rcases HF.o.ow with⟨h0,hM⟩ | ⟨h0,hW⟩
    ·subst h0
     exact wMo hEv HLN.o (Nat.le_succ_of_le hEw) (hM.alloc _) (by omega) (by omega) (Nat.zero_le _) (by show 9+100+102100000≤500000000;omega) HBD2.o
    ·exact wo_0 hEv HLN.o (Nat.le_succ_of_le hEw) (hW.alloc _) (by omega) (by omega) (by omega) (by omega) HBD2.o
   clear hx hxc hy hxa hpl
   go_wp2_with fail
   refine HCALL.o.mono ?_
   rintro e w5 ⟨rfl,more,o5,p5,hbo,how5,hb5⟩
   have HBX:=hide (HBW.o w5 hb5)
   rw[←hms]at how5
   rw[←Fo.whead_obj,←Fo.whead_place ms more]at how5
   have HBOD:Hid (Bodies EE j Ys (ms++[more])):=HF.o.bod.snoc (by rw[hms];exact HY.o) hbo
   have HB5:Hid (Below (w.heap.size+1) WD w5):=HF.o.bel.trans (((Below.refl _ _).alloc hbw1 _).trans hb5)
   obtain⟨oa5,oc5,ho5⟩:=ows how5.oo
   subst ho5
   have hblk:=how5.blk
   obtain⟨L5,hL5⟩:∃ L5,L5=(Fo.whead++Fo.wbody (ms++[more]) 1).length:=⟨_,rfl⟩
   rw[←hL5]at hblk
   have c0:w5.cell? ⟨w.heap.size+2,0,none⟩=some (.slice oa5 L5 oc5):=ceb hblk
   have HW5:=hide how5
   have HL5:=hide hL5
   clear how5 hbo hblk hL5 HCALL d0 d1 d2 d3 d4 d5 d6
   by_cases hbig:200000<L5
   ·have tb:decide ((L5:Int)>200000)=true:=by simp;omega
    go_wp2
    go_ret
    have hown:w5.ownsRow w.heap.size 5 1 (.slice oa5 L5 oc5) (Fo.whead++Fo.wbody (ms++[more]) 1).length (byv (Fo.whead++Fo.wbody (ms++[more]) 1)):=by
     rw[HL5.o]
     exact oRb HW5.o.oo (Nat.le_succ _)
    exact⟨_,_,ms++[more],rfl,hown,HBX.o,HBOD.o,Or.inr ⟨by rw[←HL5.o];exact hbig,rfl⟩⟩
   ·have tb:decide ((L5:Int)>200000)=false:=by simp;omega
    go_wp2
    go_roundw
    case rel=>exact⟨m+1,ms++[more],_,_,by omega,by first | rfl | (congr 1),by rw[List.length_append,hms];rfl,⟨Or.inr ⟨by simp,HW5.o⟩,HB5.o,HBOD.o,by rw[←HL5.o];omega⟩⟩
    case measure=>simp[intOf];omega
end
end Go.Proofs.YtgkljcmjnphpeaaGreatDoor
