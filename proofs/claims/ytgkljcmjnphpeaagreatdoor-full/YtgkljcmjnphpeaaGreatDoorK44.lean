import Derived.Test.YtgkljcmjnphpeaaGreatDoorK43
set_option linter.unusedVariables false
set_option linter.unusedSimpArgs false
set_option maxHeartbeats 4000000
set_option maxRecDepth 100000
namespace Go.Proofs.YtgkljcmjnphpeaaGreatDoor
open Go.RowKit
section
variable{w w':World}
def WrR(EE:Nat→List Nat→List Nat→Prop)(Vs:List (VT 12))(root:Int)(w:World)(e:Ending)(w':World):Prop:=
 Below w.heap.size w w' ∧
 ((Fo.isDoc Vs root=false∧e=.returned (.tuple #[.slice none 0 0,.int .i64 2])) ∨
  (Fo.isDoc Vs root=true∧∃ ms,Bodies EE 9 Vs ms ∧
  ((ms.length=Vs.length∧(Fo.wfile ms root).length≤200000∧∃ v,e=.returned (.tuple #[v,.int .i64 0])∧w'.ownsRow w.heap.size 5 1 v (Fo.wfile ms root).length (byv (Fo.wfile ms root))) ∨
   (e=.returned (.tuple #[.slice none 0 0,.int .i64 3])∧((ms.length=Vs.length∧200000<(Fo.wfile ms root).length)∨200000<(Fo.whead++Fo.wbody ms 1).length)))))
theorem wo_4{Ev M:Nat}{EE:Nat→List Nat→List Nat→Prop}(hE:EncBy EE M)(hM0:M≤1000000)(he:Env Ev w)(hEw:Ev≤w.heap.size){P:Nat→Prop}{Vs:List (VT 12)}{ov:Value}{root:Int}(h:Vals P 12 0 Vs w ov)(hF:∀ y∈Vs,Fewf y)(hl:Vs.length≤200000)(hok:Fo.isDoc Vs root=true→∀ y∈Vs,ObjOk M 9 y) :
  Calls Tryz.prog 24 #[.agg #[ov,.int .i64 root]] w (WrR EE Vs root w):=by
 obtain⟨oa,oc,rfl⟩:=h.len
 obtain⟨N,hN⟩:∃ N,Vs.length=N:=⟨_,rfl⟩
 have HN:=hide hN
 rw[hN]at h ⊢
 have b0:Below w.heap.size w (w.alloc (.cells #[.slice oa N oc,.int .i64 root] 31)):=(Below.refl _ _).alloc (Nat.le_refl _) _
 have x0:=bln w (.cells #[.slice oa N oc,.int .i64 root] 31)
 have hv1:=h.keep b0
 have HI:=hide (is_ok (root:=root) hv1 hF hl)
 have HV:=hide h
 have HOK:=hide hok
 have HE:=hide hE
 have HEV:=hide he
 have B0:=hide b0
 clear h hok hE he b0 hv1 hN
 go_enter Tryz.func24,Tryz.ntmps24
 go_wp2_with fail
 refine HI.o.mono ?_
 rintro e w1 ⟨rfl,b1⟩
 have x1:=(b1.block w.heap.size (by simp)).trans x0
 have c0:w1.cell? ⟨w.heap.size,0,none⟩=some (.slice oa N oc):=ceb x1
 have c1:w1.cell? ⟨w.heap.size,1,none⟩=some (.int .i64 root):=ceb x1
 have b01:=B0.o.trans (b1.mono (by simp))
 cases hd:Fo.isDoc Vs root with
 |false =>
  have B1:=hide b01
  have HD:=hide hd
  clear b1 x0 x1 hd b01 HI
  go_wp2
  go_ret2
  exact⟨B1.o,Or.inl ⟨HD.o,rfl⟩⟩
 |true =>
  have hb:1≤Vs.length∧Vs.length≤100∧1≤root∧root≤(Vs.length:Int):=by
   unfold Fo.isDoc at hd
   simp only[Bool.and_eq_true,decide_eq_true_eq]at hd
   omega
  have HW:=hide (wo4 (j:=9) (root:=root) HE.o hM0 (HEV.o.low (b01.mono hEw)) (Nat.le_trans hEw b01.size) (HV.o.keep b01) (by omega) (by omega) (HOK.o hd) (by omega))
  have B1:=hide b01
  have HD:=hide hd
  clear b1 x0 x1 hd b01 HI hb
  go_wp2_with fail
  refine HW.o.mono ?_
  rintro e w2 ⟨v,out,ms,rfl,own,b2,hbod,hcase⟩
  obtain⟨va,vc,hv⟩:=ows own
  subst hv
  have hos:out.length≤9223372036854775807:=owl own
  have HOW:=hide own
  have B2:=hide (B1.o.trans (b2.mono B1.o.size))
  have B21:=B1.o.size
  have HBO:=hide (And.intro hbod hcase)
  obtain⟨L,hL⟩:∃ L,L=out.length:=⟨_,rfl⟩
  have HL:=hide hL
  rw[←hL]at hos ⊢
  clear own b2 hbod hcase hL HW c0 c1
  by_cases hbig:L≤200000
  ·go_wp2_with (go_at_call 63;refine(wiy _ _ _ _ (by omega) (by omega)).mono ?_;rintro e w' ⟨rfl,rfl⟩)
   go_ret2
   refine⟨B2.o,Or.inr ⟨HD.o,ms,HBO.o.1,Or.inl ?_⟩⟩
   have hlo:=HL.o
   rcases HBO.o.2 with⟨h1,rfl⟩ | ⟨h1,_⟩
   ·refine⟨h1,by omega,_,rfl,?_⟩
    rw[hlo]
    exact oRb HOW.o B21
   ·omega
  ·go_wp2_with (go_at_call 63;refine(win _ _ _ _ (by omega)).mono ?_;rintro e w' ⟨rfl,rfl⟩)
   go_ret2
   refine⟨B2.o,Or.inr ⟨HD.o,ms,HBO.o.1,Or.inr ⟨rfl,?_⟩⟩⟩
   have hlo:=HL.o
   rcases HBO.o.2 with⟨h1,rfl⟩ | ⟨h1,rfl⟩
   ·exact Or.inl ⟨h1,by omega⟩
   ·exact Or.inr h1
end
section
variable{B br bd off cap:Nat}{d:List Nat}{most:Nat}{w:World}{p:Nat}{ov:Value}{out:List Nat}
theorem rn(h:Rd B br bd off cap d most w p ov out)(n:Nat)(hn:n≤1000000)(ho:most<out.length+n) :
  Calls Tryz.prog 276 #[.pointer (some ⟨br,0,none⟩),.int .i64 n] w fun e w'=>e=gU 6∧∃ q,w'=w.drewN q:=by
 unfold gU
 have c2:=h.c2
 have c3:=h.c3
 have b1:=h.lm
 have b2:=h.lo
 obtain⟨ao,oc,hov⟩:=ows h.own
 rw[hov]at c2
 clear hov
 go_enter Tryz.func276,Tryz.ntmps276
 go_wp2_with fail
 go_quiet ((go_at_call 63;exact Calls.quiet_of_same (win _ _ _ _ (Or.inr (by omega)))))
 go_wp2
 exact⟨rfl,rfl,_,rfl⟩
theorem pun(h:Rd B br bd off cap d most w p ov out)(n:Nat)(a:Option Addr)(c:Nat)(hn:n≤1000000)(ho:most<out.length+n) :
  Calls Tryz.prog 213 #[.pointer (some ⟨br,0,none⟩),.slice a n c] w fun e w'=>e=gU 6∧∃ q,w'=w.drewN q:=by
 have HR:=hide (rn h n hn ho)
 go_enter Tryz.func213,Tryz.ntmps213
 go_wp2_with fail
 refine HR.o.mono ?_
 rintro e w1 ⟨rfl,q,rfl⟩
 exact⟨rfl,rfl,q,rfl⟩
def PGo(F B br bd off cap:Nat)(d:List Nat)(most p:Nat)(out:List Nat)(b:Bool)(p':Nat)(out':List Nat):Prop:=
 ∀(w:World) (ov:Value),Rd B br bd off cap d most w p ov out→Calls Tryz.prog F #[.pointer (some ⟨br,0,none⟩)] w fun e w'=>e=.returned (.bool b)∧∃ ov',Rd B br bd off cap d most w' p' ov' out'∧Kept 5 B [br] w w'
def PNo(F B br bd off cap:Nat)(d:List Nat)(most p:Nat)(out:List Nat)(n:Int):Prop:=
 ∀(w:World) (ov:Value),Rd B br bd off cap d most w p ov out→Calls Tryz.prog F #[.pointer (some ⟨br,0,none⟩)] w fun e w'=>e=gU n∧Kept 5 B [br] w w'
theorem dAi(I:Nat→List Nat→Prop){o:List Nat}(hs:∀ q out,I q out→out.length≤most→(∃ q' out',q<q'∧I q' out'∧PGo 157 B br bd off cap d most q out true q' out')∨PGo 157 B br bd off cap d most q out false d.length o)(h0:I p out)(h:Rd B br bd off cap d most w p ov out) :
  Calls Tryz.prog 114 #[.pointer (some ⟨br,0,none⟩)] w fun e w'=>e=.returned (.tuple #[])∧∃ ov',Rd B br bd off cap d most w' d.length ov' o∧Kept 5 B [br] w w':=by
 have HS:=hide hs
 clear hs
 go_enter Tryz.func114,Tryz.ntmps114
 go_wp2
 go_loopw [2] (fun _ wr=>∃(q:Nat) (o:List Nat) (ov':Value),Hid (I q o)∧Rd B br bd off cap d most wr q ov' o∧Kept 5 B [br] w wr) (fun _ wr=>d.length-posOf br wr)
 case atStart=>exact⟨p,out,ov,h0,h,Kept.refl _ _ _ _⟩
 case round =>
  obtain⟨q,o,ov',HI,r,kk⟩:=hrel
  have mr:=hide r.posOf
  rcases HS.o q o HI.o r.lo with⟨q',o',hup,hI',hg⟩ | hg
  ·have HG:=hide hg
   have HI':=hide hI'
   clear hg hI'
   go_wp2_with fail
   refine(HG.o _ _ r).mono ?_
   rintro e w1 ⟨rfl,ov2,r2,k2⟩
   have m2:=hide r2.posOf
   have lp:=r2.lp
   go_wp2
   go_roundw
   case rel=>exact⟨q',o',ov2,HI',r2,kk.trans k2⟩
   case measure=>rw[mr.o,m2.o];omega
  ·have HG:=hide hg
   clear hg
   go_wp2_with fail
   refine(HG.o _ _ r).mono ?_
   rintro e w1 ⟨rfl,ov2,r2,k2⟩
   go_wp2_with fail
   refine(sWe r2).mono ?_
   rintro e w2 ⟨rfl,r3,k3⟩
   go_wp2_with fail
   refine(eo r3).mono ?_
   rintro e w3 ⟨rfl,q,rfl⟩
   go_wp2
   go_end0
   exact⟨rfl,ov2,r3.drewN q,((kk.trans k2).trans k3).drewN q⟩
theorem dRi(I:Nat→List Nat→Prop){o:List Nat}(hs:∀ q out,I q out→out.length≤most→(∃ q' out',q<q'∧I q' out'∧PGo 158 B br bd off cap d most q out true q' out')∨PGo 158 B br bd off cap d most q out false d.length o)(h0:I p out)(h:Rd B br bd off cap d most w p ov out) :
  Calls Tryz.prog 115 #[.pointer (some ⟨br,0,none⟩)] w fun e w'=>e=.returned (.tuple #[])∧∃ ov',Rd B br bd off cap d most w' d.length ov' o∧Kept 5 B [br] w w':=by
 have HS:=hide hs
 clear hs
 go_enter Tryz.func115,Tryz.ntmps115
 go_wp2
 go_loopw [2] (fun _ wr=>∃(q:Nat) (o:List Nat) (ov':Value),Hid (I q o)∧Rd B br bd off cap d most wr q ov' o∧Kept 5 B [br] w wr) (fun _ wr=>d.length-posOf br wr)
 case atStart=>exact⟨p,out,ov,h0,h,Kept.refl _ _ _ _⟩
 case round =>
  obtain⟨q,o,ov',HI,r,kk⟩:=hrel
  have mr:=hide r.posOf
  rcases HS.o q o HI.o r.lo with⟨q',o',hup,hI',hg⟩ | hg
  ·have HG:=hide hg
   have HI':=hide hI'
   clear hg hI'
   go_wp2_with fail
   refine(HG.o _ _ r).mono ?_
   rintro e w1 ⟨rfl,ov2,r2,k2⟩
   have m2:=hide r2.posOf
   have lp:=r2.lp
   go_wp2
   go_roundw
   case rel=>exact⟨q',o',ov2,HI',r2,kk.trans k2⟩
   case measure=>rw[mr.o,m2.o];omega
  ·have HG:=hide hg
   clear hg
   go_wp2_with fail
   refine(HG.o _ _ r).mono ?_
   rintro e w1 ⟨rfl,ov2,r2,k2⟩
   have r3:=r2
   have k3:=Kept.refl 5 B [br] w1
   go_wp2_with fail
   refine(eo r3).mono ?_
   rintro e w3 ⟨rfl,q,rfl⟩
   go_wp2
   go_end0
   exact⟨rfl,ov2,r3.drewN q,((kk.trans k2).trans k3).drewN q⟩
theorem dRif(I:Nat→List Nat→Prop){n:Int}(hs:∀ q out,I q out→out.length≤most→(∃ q' out',q<q'∧I q' out'∧PGo 158 B br bd off cap d most q out true q' out')∨PNo 158 B br bd off cap d most q out n)(h0:I p out)(h:Rd B br bd off cap d most w p ov out) :
  Calls Tryz.prog 115 #[.pointer (some ⟨br,0,none⟩)] w fun e w'=>e=gU n∧Kept 5 B [br] w w':=by
 have HS:=hide hs
 clear hs
 go_enter Tryz.func115,Tryz.ntmps115
 go_wp2
 go_loopw [2] (fun _ wr=>∃(q:Nat) (o:List Nat) (ov':Value),Hid (I q o)∧Rd B br bd off cap d most wr q ov' o∧Kept 5 B [br] w wr) (fun _ wr=>d.length-posOf br wr)
 case atStart=>exact⟨p,out,ov,h0,h,Kept.refl _ _ _ _⟩
 case round =>
  obtain⟨q,o,ov',HI,r,kk⟩:=hrel
  have mr:=hide r.posOf
  rcases HS.o q o HI.o r.lo with⟨q',o',hup,hI',hg⟩ | hg
  ·have HG:=hide hg
   have HI':=hide hI'
   clear hg hI'
   go_wp2_with fail
   refine(HG.o _ _ r).mono ?_
   rintro e w1 ⟨rfl,ov2,r2,k2⟩
   have m2:=hide r2.posOf
   have lp:=r2.lp
   go_wp2
   go_roundw
   case rel=>exact⟨q',o',ov2,HI',r2,kk.trans k2⟩
   case measure=>rw[mr.o,m2.o];omega
  ·have HG:=hide hg
   clear hg
   go_wp2_with fail
   refine(HG.o _ _ r).mono ?_
   rintro e w1 ⟨rfl,k2⟩
   exact⟨rfl,rfl,kk.trans k2⟩
theorem fdo{l:List Nat}(R:Rd w.heap.size w.heap.size bd off cap d most (w.alloc (.cells #[.slice (some ⟨bd,off,none⟩) d.length cap,.int .i64 0,.slice none 0 0,.int .i64 most] 141 (0,0))) 0 (.slice none 0 0) [])
  (hc:∀(w:World) (br B:Nat) (ov:Value),Rd B br bd off cap d most w 0 ov []→Calls Tryz.prog 115 #[.pointer (some ⟨br,0,none⟩)] w fun e w'=>e=.returned (.tuple #[])∧∃ ov',Rd B br bd off cap d most w' d.length ov' l∧Kept 5 B [br] w w') :
  Calls Tryz.prog 80 #[.int .i64 3,.slice (some ⟨bd,off,none⟩) d.length cap,.int .i64 most] w fun e w'=>∃ v,e=.returned v∧w'.ownsRow w.heap.size 5 1 v l.length (l.map fun x:Nat=>.int .u8 (x:Int))∧Below w.heap.size w w':=by
 have HC:=hide (hc _ _ _ _ R)
 clear R hc
 go_enter Tryz.func80,Tryz.ntmps80
 go_wp2_with fail
 refine HC.o.mono ?_
 rintro e w1 ⟨rfl,ov,r1,k1⟩
 have c2:=r1.c2
 go_wp2
 go_ret
 exact⟨ov,rfl,r1.own,kBN k1⟩
theorem fdn{n:Int}(R:Rd w.heap.size w.heap.size bd off cap d most (w.alloc (.cells #[.slice (some ⟨bd,off,none⟩) d.length cap,.int .i64 0,.slice none 0 0,.int .i64 most] 141 (0,0))) 0 (.slice none 0 0) [])
  (hc:∀(w:World) (br B:Nat) (ov:Value),Rd B br bd off cap d most w 0 ov []→Calls Tryz.prog 115 #[.pointer (some ⟨br,0,none⟩)] w fun e w'=>e=gU n∧Kept 5 B [br] w w') :
  Calls Tryz.prog 80 #[.int .i64 3,.slice (some ⟨bd,off,none⟩) d.length cap,.int .i64 most] w fun e w'=>e=gU n∧Below w.heap.size w w':=by
 have HC:=hide (hc _ _ _ _ R)
 clear R hc
 go_enter Tryz.func80,Tryz.ntmps80
 go_wp2_with fail
 refine HC.o.mono ?_
 rintro e w1 ⟨rfl,k1⟩
 exact⟨rfl,rfl,kBN k1⟩
theorem fo_{l:List Nat}(R:Rd w.heap.size w.heap.size bd off cap d most (w.alloc (.cells #[.slice (some ⟨bd,off,none⟩) d.length cap,.int .i64 0,.slice none 0 0,.int .i64 most] 141 (0,0))) 0 (.slice none 0 0) [])
  (hc:∀(w:World) (br B:Nat) (ov:Value),Rd B br bd off cap d most w 0 ov []→Calls Tryz.prog 116 #[.pointer (some ⟨br,0,none⟩)] w fun e w'=>e=.returned (.tuple #[])∧∃ ov',Rd B br bd off cap d most w' d.length ov' l∧Kept 5 B [br] w w') :
  Calls Tryz.prog 80 #[.int .i64 4,.slice (some ⟨bd,off,none⟩) d.length cap,.int .i64 most] w fun e w'=>∃ v,e=.returned v∧w'.ownsRow w.heap.size 5 1 v l.length (l.map fun x:Nat=>.int .u8 (x:Int))∧Below w.heap.size w w':=by
 have HC:=hide (hc _ _ _ _ R)
 clear R hc
 go_enter Tryz.func80,Tryz.ntmps80
 go_wp2_with fail
 refine HC.o.mono ?_
 rintro e w1 ⟨rfl,ov,r1,k1⟩
 have c2:=r1.c2
 go_wp2
 go_ret
 exact⟨ov,rfl,r1.own,kBN k1⟩
theorem fn0{n:Int}(R:Rd w.heap.size w.heap.size bd off cap d most (w.alloc (.cells #[.slice (some ⟨bd,off,none⟩) d.length cap,.int .i64 0,.slice none 0 0,.int .i64 most] 141 (0,0))) 0 (.slice none 0 0) [])
  (hc:∀(w:World) (br B:Nat) (ov:Value),Rd B br bd off cap d most w 0 ov []→Calls Tryz.prog 116 #[.pointer (some ⟨br,0,none⟩)] w fun e w'=>e=gU n∧Kept 5 B [br] w w') :
  Calls Tryz.prog 80 #[.int .i64 4,.slice (some ⟨bd,off,none⟩) d.length cap,.int .i64 most] w fun e w'=>e=gU n∧Below w.heap.size w w':=by
 have HC:=hide (hc _ _ _ _ R)
 clear R hc
 go_enter Tryz.func80,Tryz.ntmps80
 go_wp2_with fail
 refine HC.o.mono ?_
 rintro e w1 ⟨rfl,k1⟩
 exact⟨rfl,rfl,kBN k1⟩
end
section
variable{B br bf bd off cap:Nat}{d:List Nat}{most:Nat}{fixed:List Value}{w:World}{p held left window:Nat}{ov:Value}{out:List Nat}
theorem agn(h:Bi B br bf bd off cap d most fixed w p held left window ov out)(len dist:Nat)(h1:1≤dist)(h2:dist≤out.length)(h3:dist≤window)(hlen:len≤1000000)(h4:most<out.length+len)(h5:window≤32768) :
  Calls Tryz.prog 315 #[.pointer (some ⟨bf,0,none⟩),.int .i64 len,.int .i64 dist] w fun e w'=>e=gU 6∧Kept 5 B [br,bf] w w':=by
 have c0:=h.c0
 have c3:=h.c3
 have r2:=h.rd.c2
 have lm:=h.rd.lm
 have lo:=h.rd.lo
 obtain⟨ao,oc,hov⟩:=ows h.rd.own
 have HOV:=hide hov
 rw[hov]at r2
 clear hov
 rcases Nat.lt_or_ge window out.length with hm | hm
 all_goals
  go_enter Tryz.func315,Tryz.ntmps315
  go_wp2_with fail
  go_quiet ((first | (go_at_call 63;exact Calls.quiet_of_same (wiy _ _ _ _ (by omega) (by omega))) | (go_at_call 163;exact Calls.quiet_of_same (muy _))))
  go_wp2_with fail
  refine(rn (h.rd.drewN _) len hlen h4).mono ?_
  rintro e w' ⟨rfl,q,rfl⟩
  exact⟨rfl,rfl,((Kept.refl _ _ _ _).drewN _).drewN _⟩
theorem paln(bc oc:Nat)(c:Fo.Codes)(hc:CO c)(hC:Codes4 B br bf bd off cap d most fixed window bc oc c w){rest rest':List Bool}(h:Fl B br bf bd off cap d most fixed w rest window ov out)
  (s:Nat) (hs:Fo.sym c.cs c.ss rest=some (s,rest')) (h1:s<256) (ho:most<out.length+1) :
  Calls Tryz.prog 278 #[.pointer (some ⟨bf,0,none⟩),.pointer (some ⟨bc,oc,none⟩)] w fun e w'=>e=gU 6∧Kept 5 B [br,bf] w w':=by
 have HS:=hide hs
 clear hs
 go_enter Tryz.func278,Tryz.ntmps278
 go_wp2_with fail
 go_region_with (go_at_call 313;refine(syo bc oc c.cs c.ss hc.s1 hc.l1 (fun w' r hf k=>(hC w' r _ _ hf (((Kept.refl _ _ _ _).drew).trans k)).1) HS.o h.drew).mono ?_;rintro e w1 ⟨rfl,hf1,k1⟩)
 obtain⟨p,held,left,hb,hl,hr⟩:=hf1
 have c0:=hb.c0
 clear hr
 have h1':(s:Int)<256:=by omega
 go_wp2_with fail
 refine(pun (hb.rd.alloc _) 1 _ 1 (by omega) ho).mono ?_
 rintro e w2 ⟨rfl,q,rfl⟩
 exact⟨rfl,rfl,((((Kept.refl _ _ _ _).drew).trans k1).alloc _).drewN q⟩
theorem pcn(bc oc:Nat)(c:Fo.Codes)(hc:CO c)(hC:Codes4 B br bf bd off cap d most fixed window bc oc c w){rest r1 r2 r3 r4:List Bool}(h:Fl B br bf bd off cap d most fixed w rest window ov out)
  (s x t y:Nat) (hs:Fo.sym c.cs c.ss rest=some (s,r1)) (a1:257≤s) (a2:s≤285) (hx:Fo.take (Fo.lenSpan s).2 r1=some (x,r2)) (ht:Fo.sym c.cd c.sd r2=some (t,r3)) (a3:t≤29)
  (hy:Fo.take (Fo.distSpan t).2 r3=some (y,r4)) (b1:(Fo.distSpan t).1+y≤out.length) (b2:(Fo.distSpan t).1+y≤window) (b3:most<out.length+((Fo.lenSpan s).1+x)) (hw:window≤32768) :
  Calls Tryz.prog 278 #[.pointer (some ⟨bf,0,none⟩),.pointer (some ⟨bc,oc,none⟩)] w fun e w'=>e=gU 6∧Kept 5 B [br,bf] w w':=by
 have HS:=hide hs
 have HT:=hide ht
 have l1:=lSl ⟨s,by omega⟩ a1
 have l2:=dSl ⟨t,by omega⟩
 simp only[]at l1 l2
 obtain⟨x1,x2,x3⟩:=Fo.take_rest hx
 obtain⟨y1,y2,y3⟩:=Fo.take_rest hy
 have X2:=hide x2
 have X3:=hide x3
 have Y2:=hide y2
 have Y3:=hide y3
 have NUM:=hide (And.intro b1 (And.intro b2 (And.intro b3 (And.intro l1 (And.intro l2 (And.intro x1 y1))))))
 clear hs ht hx hy x2 x3 y2 y3 b1 b2 b3 l1 l2 x1 y1
 have a1':(257:Int)≤(s:Int):=by omega
 have a2':(s:Int)≤285:=by omega
 have a3':(t:Int)≤29:=by omega
 have e1:((s:Int)==256)=false:=by simp;omega
 go_enter Tryz.func278,Tryz.ntmps278
 go_wp2_with fail
 go_region_with (go_at_call 313;refine(syo bc oc c.cs c.ss hc.s1 hc.l1 (fun w' r hf k=>(hC w' r _ _ hf (((Kept.refl _ _ _ _).drew).trans k)).1) HS.o h.drew).mono ?_;rintro e w1 ⟨rfl,hf1,k1⟩)
 have kk:=((Kept.refl 5 B [br,bf] w).drew).trans k1
 clear k1
 go_wp2_with fail
 refine(wiy _ _ _ _ a1' a2').mono ?_
 rintro e w' ⟨rfl,rfl⟩
 go_wp2_with fail
 refine(muy _).mono ?_
 rintro e w' ⟨rfl,rfl⟩
 go_wp2_with fail
 refine(lSo s a1 a2 _).mono ?_
 rintro e w2 ⟨rfl,o2,rfl⟩
 go_wp2_with fail
 refine(wo_ (Fo.lenSpan s) (by have:=NUM.o;omega) (by have:=NUM.o;omega) NUM.o.2.2.2.2.2.1 (hf1.alloc o2)).mono ?_
 rintro e w3 ⟨rfl,hf3,k3⟩
 rw[←X3.o]at hf3
 have kk3:=(kk.alloc o2).trans k3
 clear kk k3
 rw[←X2.o]
 go_wp2_with fail
 go_region_with (go_at_call 313;refine(syo bc (oc+17) c.cd c.sd hc.s2 hc.l2 (fun w' r hf k=>(hC w' r _ _ hf ((kk3.drew).trans k)).2) HT.o hf3.drew).mono ?_;rintro e w4 ⟨rfl,hf4,k4⟩)
 have kk4:=(kk3.drew).trans k4
 clear kk3 k4
 go_wp2_with fail
 refine(wiy _ _ _ _ (by omega) a3').mono ?_
 rintro e w' ⟨rfl,rfl⟩
 go_wp2_with fail
 refine(muy _).mono ?_
 rintro e w' ⟨rfl,rfl⟩
 go_wp2_with fail
 refine(dSo t a3 _).mono ?_
 rintro e w5 ⟨rfl,o5,rfl⟩
 go_wp2_with fail
 refine(wo_ (Fo.distSpan t) (by have:=NUM.o;omega) (by have:=NUM.o;omega) NUM.o.2.2.2.2.2.2 (hf4.alloc o5)).mono ?_
 rintro e w6 ⟨rfl,hf6,k6⟩
 rw[←Y3.o]at hf6
 have kk6:=(kk4.alloc o5).trans k6
 clear kk4 k6
 rw[←Y2.o]
 obtain⟨p,held,left,hb,hl,hr⟩:=hf6
 have HR:=hide hr
 clear hr
 go_wp2_with fail
 have hxl:x<1000:=by
  have e1:=X2.o
  have e2:=Fo.val_lt (r1.take (Fo.lenSpan s).2)
  rw[←e1,List.length_take,Nat.min_eq_left NUM.o.2.2.2.2.2.1]at e2
  have:2^(Fo.lenSpan s).2≤2^5:=Nat.pow_le_pow_right (by omega) NUM.o.2.2.2.1.1
  omega
 refine(agn hb ((Fo.lenSpan s).1+x) ((Fo.distSpan t).1+y) (by have:=NUM.o;omega) NUM.o.1 NUM.o.2.1 (by have:=NUM.o;omega) NUM.o.2.2.1 hw).mono ?_
 rintro e w7 ⟨rfl,k7⟩
 exact⟨rfl,rfl,kk6.trans k7⟩
theorem pn_(bc oc:Nat)(c:Fo.Codes)(hc:CO c)(hC:Codes4 B br bf bd off cap d most fixed window bc oc c w){rest:List Bool}(h:Fl B br bf bd off cap d most fixed w rest window ov out)
  (hw:window≤32768) (hp:Fo.part c window most rest out=.error 6) :
  Calls Tryz.prog 278 #[.pointer (some ⟨bf,0,none⟩),.pointer (some ⟨bc,oc,none⟩)] w fun e w'=>e=gU 6∧Kept 5 B [br,bf] w w':=by
 unfold Fo.part at hp
 cases h1:Fo.sym c.cs c.ss rest with
 |none=>rw[h1]at hp;cases hp
 |some x =>
  obtain⟨s,r1⟩:=x
  rw[h1]at hp;simp only[]at hp
  by_cases c1:s<256
  ·rw[if_pos c1]at hp
   by_cases c0:out.length+1≤most
   ·rw[if_pos c0]at hp;cases hp
   ·exact paln bc oc c hc hC h s h1 c1 (by omega)
  rw[if_neg c1]at hp
  by_cases c2:s=256
  ·rw[if_pos c2]at hp;cases hp
  rw[if_neg c2]at hp
  by_cases c3:285<s
  ·rw[if_pos c3]at hp;cases hp
  rw[if_neg c3]at hp
  cases h2:Fo.take (Fo.lenSpan s).2 r1 with
  |none=>rw[h2]at hp;cases hp
  |some x =>
   obtain⟨x,r2⟩:=x
   rw[h2]at hp;simp only[]at hp
   cases h3:Fo.sym c.cd c.sd r2 with
   |none=>rw[h3]at hp;cases hp
   |some y =>
    obtain⟨t,r3⟩:=y
    rw[h3]at hp;simp only[]at hp
    by_cases c4:29<t
    ·rw[if_pos c4]at hp;cases hp
    rw[if_neg c4]at hp
    cases h4:Fo.take (Fo.distSpan t).2 r3 with
    |none=>rw[h4]at hp;cases hp
    |some z =>
     obtain⟨y,r4⟩:=z
     rw[h4]at hp;simp only[]at hp
     by_cases c5:(Fo.distSpan t).1+y≤out.length∧(Fo.distSpan t).1+y≤window
     ·rw[if_pos c5]at hp
      by_cases c6:out.length+((Fo.lenSpan s).1+x)≤most
      ·rw[if_pos c6]at hp;cases hp
      ·exact pcn bc oc c hc hC h s x t y h1 (by omega) (by omega) h2 h3 (by omega) h4 c5.1 c5.2 (by omega) hw
     ·rw[if_neg c5]at hp;cases hp
theorem con(bc oc:Nat)(c:Fo.Codes)(hc:CO c)(hC:Codes4 B br bf bd off cap d most fixed window bc oc c w){rest:List Bool}(h:Fl B br bf bd off cap d most fixed w rest window ov out)
  (hw:window≤32768) (hp:Fo.PartsTo c window most rest out (.error 6)) :
  Calls Tryz.prog 223 #[.pointer (some ⟨bf,0,none⟩),.pointer (some ⟨bc,oc,none⟩)] w fun e w'=>e=gU 6∧Kept 5 B [br,bf] w w':=by
 go_enter Tryz.func223,Tryz.ntmps223
 go_wp2
 go_loopw [6] (fun _ wr=>∃(r:List Bool) (o:List Nat) (ov':Value),Fl B br bf bd off cap d most fixed wr r window ov' o∧Hid (Fo.PartsTo c window most r o (.error 6))∧Kept 5 B [br,bf] w wr) (fun _ wr=>bO br bf d.length wr)
 case atStart=>exact⟨rest,out,ov,h,hp,Kept.refl _ _ _ _⟩
 case round =>
  obtain⟨r,o,ov',hf,HP,kk⟩:=hrel
  have hm:=hide hf.measure
  rcases HP.o.parted with⟨e1,he,hres⟩ | ⟨r1,o1,he,hres⟩ | ⟨r1,o1,he,hp2⟩
  ·cases hres
   go_wp2_with fail
   refine(pn_ bc oc c hc (hC.kept kk) hf hw he).mono ?_
   rintro e w1 ⟨rfl,k2⟩
   exact⟨rfl,rfl,kk.trans k2⟩
  ·cases hres
  ·have HP2:=hide hp2
   have hsh:=Fo.part_shorter he
   have HE:=hide he
   clear hp2 he
   go_wp2_with fail
   refine(pao bc oc c hc (hC.kept kk) hf hw HE.o).mono ?_
   rintro e w1 ⟨rfl,ov2,hf2,k2⟩
   have hm2:=hide hf2.measure
   go_wp2
   go_roundw
   case rel=>exact⟨_,_,ov2,hf2,HP2,kk.trans k2⟩
   case measure=>rw[hm.o,hm2.o];exact hsh
theorem bfn(b:Bool)(hx:Fix w br bf fixed){rest:List Bool}(h:Fl B br bf bd off cap d most fixed w (b::(Fo.numBits 2 1++rest)) window ov out)
  (hw:window≤32768) (hp:Fo.PartsTo Fo.fixedC window most rest out (.error 6)) :
  Calls Tryz.prog 161 #[.pointer (some ⟨bf,0,none⟩)] w fun e w'=>e=gU 6∧Kept 5 B [br,bf] w w':=by
 have HP:=hide hp
 clear hp
 cases b
 all_goals
  go_enter Tryz.func161,Tryz.ntmps161
  go_wp2_with fail
  refine(bio h).mono ?_
  rintro e w1 ⟨rfl,hf1,k1⟩
  simp only[Bool.toNat_false,Bool.toNat_true]
  go_wp2_with fail
  refine(bNo 2 1 (by omega) (by omega) hf1).mono ?_
  rintro e w2 ⟨rfl,hf2,k2⟩
  go_wp2_with fail
  refine(con bf 4 Fo.fixedC fO (hx.codes.kept (k1.trans k2)) hf2 hw HP.o).mono ?_
  rintro e w3 ⟨rfl,k3⟩
  exact⟨rfl,rfl,(k1.trans k2).trans k3⟩
def Sst(bf:Nat)(ptr:Value)(_L:Array Bool)(W:World):Prop:=W.cell? ⟨bf,0,none⟩=some ptr
theorem sn_(D:List Nat)(hD0:0<D.length)(hD1:D.length≤65535)(hD:∀ i,i<D.length→nth D i<256){rest rest':List Bool}(h:Fl B br bf bd off cap d most fixed w rest window ov out)
  (hr:rest.drop (rest.length%8)=Fo.numBits 16 D.length++(Fo.numBits 16 (65535-D.length)++(Fo.bitsOf D++rest'))) (h8:rest'.length%8=0) (ho:most<out.length+D.length) :
  Calls Tryz.prog 222 #[.pointer (some ⟨bf,0,none⟩)] w fun e w'=>e=gU 6∧Kept 5 B [br,bf] w w':=by
 have HR:=hide hr
 have H8:=hide h8
 clear hr h8
 have tok:True:=trivial
 go_enter Tryz.func222,Tryz.ntmps222
 go_wp2_with fail
 refine(alo h).mono ?_
 rintro e w1 ⟨rfl,⟨p1,held1,hb1,hq1⟩,k1⟩
 rw[HR.o]at hq1
 have hf1:Fl B br bf bd off cap d most fixed w1 (Fo.numBits 16 D.length++(Fo.numBits 16 (65535-D.length)++(Fo.bitsOf D++rest'))) window ov out:=⟨p1,held1,0,hb1,by omega,by rw[←hq1];simp[bL,Fo.numBits]⟩
 clear hb1 hq1 h
 go_wp2_with fail
 go_region_with (first | (go_at_call 221;have _t:=tok;refine(bNo 16 D.length (by omega) (by omega) hf1.drew).mono ?_;rintro e w2 ⟨rfl,hf2,k2⟩;clear tok) | (go_at_call 221;refine(bNo 16 (65535-D.length) (by omega) (by omega) hf2).mono ?_;rintro e w3 ⟨rfl,hf3,k3⟩))
 have kk:=(k1.drew.trans k2).trans k3
 clear k1 k2 k3 hf1 hf2
 have e1:((65535-D.length:Nat):Int)=65535-(D.length:Int):=by omega
 rw[e1]
 go_wp2_with fail
 refine(muy _).mono ?_
 rintro e w' ⟨rfl,rfl⟩
 obtain⟨p,held,hb,hq⟩:=hf3.whole (by rw[List.length_append,Fo.bitsOf_length];have:=H8.o;omega)
 obtain⟨q1,q2,q3⟩:=hb.bytes D hD rest' hq
 have Q2:=hide q2
 have Q3:=hide q3
 clear q2 q3 hq hf3
 have c0:=hb.c0
 go_wp2_with fail
 refine wrT (Sst bf (.pointer (some ⟨br,0,none⟩))) (by kernel_rfl) ?_
 intro hD
 have hS:Sst bf (.pointer (some ⟨br,0,none⟩)) (Array.replicate 13 false) w'.drew:=c0
 refine tk 0 ?_ hD ?_ hS ?_
 rotate_left
 ·intro W hW;obtain⟨_,_,_,f0⟩:=hW;unfold Sst at f0;go_simp;try(with_reducible rfl)
 clear hD hS;intro hD hS;(try simp only[setL])
 refine tk 1 ?_ hD ?_ hS ?_
 rotate_left
 ·intro W hW;obtain⟨_,_,_,f0⟩:=hW;unfold Sst at f0;go_simp;try(with_reducible rfl)
 clear hD hS;intro hD hS;(try simp only[setL])
 refine tk 2 ?_ hD ?_ hS ?_
 rotate_left
 ·intro W hW;obtain⟨_,_,_,f0⟩:=hW;unfold Sst at f0;go_simp;try(with_reducible rfl)
 clear hD hS;intro hD hS;(try simp only[setL])
 refine tk 3 ?_ hD ?_ hS ?_
 rotate_left
 ·intro W hW;obtain⟨_,_,_,f0⟩:=hW;unfold Sst at f0;go_simp;try(with_reducible rfl)
 clear hD hS;intro hD hS;(try simp only[setL])
 refine tk 4 ?_ hD ?_ hS ?_
 rotate_left
 ·intro W hW;obtain⟨_,_,_,f0⟩:=hW;unfold Sst at f0;go_simp;try(with_reducible rfl)
 clear hD hS;intro hD hS;(try simp only[setL])
 refine tk 5 ?_ hD ?_ hS ?_
 rotate_left
 ·intro W hW;obtain⟨_,_,_,f0⟩:=hW;unfold Sst at f0;go_simp;try(with_reducible rfl)
 clear hD hS;intro hD hS;(try simp only[setL])
 refine tk 6 ?_ hD ?_ hS ?_
 rotate_left
 ·intro W hW;obtain⟨_,_,_,f0⟩:=hW;unfold Sst at f0;go_simp;try(with_reducible rfl)
 clear hD hS;intro hD hS;(try simp only[setL])
 refine tk 7 ?_ hD ?_ hS ?_
 rotate_left
 ·intro W hW;obtain⟨_,_,_,f0⟩:=hW;unfold Sst at f0;go_simp;try(with_reducible rfl)
 clear hD hS;intro hD hS;(try simp only[setL])
 refine tk 8 ?_ hD ?_ hS ?_
 rotate_left
 ·intro W hW;obtain⟨_,_,_,f0⟩:=hW;unfold Sst at f0;go_simp;try(with_reducible rfl)
 clear hD hS;intro hD hS;(try simp only[setL])
 refine tk 9 ?_ hD ?_ hS ?_
 rotate_left
 ·intro W hW;obtain⟨_,_,_,f0⟩:=hW;unfold Sst at f0;go_simp;try(with_reducible rfl)
 clear hD hS;intro hD hS;(try simp only[setL])
 refine tk 10 ?_ hD ?_ hS ?_
 rotate_left
 ·intro W hW;obtain⟨_,_,_,f0⟩:=hW;unfold Sst at f0;go_simp;try(with_reducible rfl)
 clear hD hS;intro hD hS;(try simp only[setL])
 refine on 11 hD fun K' hK=>?_
 go_simp
 refine(tao (hb.rd.drewN 1) D.length hD0 q1).mono ?_
 rintro e w4 ⟨rfl,r4,k4⟩
 refine hK.o _ _ ((hb.rdKept r4 (((Kept.refl _ _ _ _).drewN 1).trans k4)).c0) (fun hD2 hS2=>?_)
 clear hD hS hK K'
 have hD:=hD2
 have hS:=hS2
 clear hD2 hS2
 (try simp only[setL])
 refine on 12 hD fun K' hK=>?_
 go_simp
 refine(pun r4 D.length (some ⟨bd,off+p,none⟩) (cap-p) (by omega) ho).mono ?_
 rintro e w5 ⟨rfl,q,rfl⟩
 exact⟨rfl,rfl,(kk.drewN 1).trans ((k4.drewN q).mono (by simp))⟩
theorem bsn(b:Bool)(D:List Nat)(hD0:0<D.length)(hD1:D.length≤65535)(hD:∀ i,i<D.length→nth D i<256){rest rest':List Bool}(h:Fl B br bf bd off cap d most fixed w (b::(Fo.numBits 2 0++rest)) window ov out)
  (hr:rest.drop (rest.length%8)=Fo.numBits 16 D.length++(Fo.numBits 16 (65535-D.length)++(Fo.bitsOf D++rest'))) (h8:rest'.length%8=0) (ho:most<out.length+D.length) :
  Calls Tryz.prog 161 #[.pointer (some ⟨bf,0,none⟩)] w fun e w'=>e=gU 6∧Kept 5 B [br,bf] w w':=by
 have HR:=hide hr
 have H8:=hide h8
 clear hr h8
 cases b
 all_goals
  go_enter Tryz.func161,Tryz.ntmps161
  go_wp2_with fail
  refine(bio h).mono ?_
  rintro e w1 ⟨rfl,hf1,k1⟩
  simp only[Bool.toNat_false,Bool.toNat_true]
  go_wp2_with fail
  refine(bNo 2 0 (by omega) (by omega) hf1).mono ?_
  rintro e w2 ⟨rfl,hf2,k2⟩
  go_wp2_with fail
  refine(sn_ D hD0 hD1 hD hf2 HR.o H8.o ho).mono ?_
  rintro e w3 ⟨rfl,k3⟩
  exact⟨rfl,rfl,(k1.trans k2).trans k3⟩
end
end Go.Proofs.YtgkljcmjnphpeaaGreatDoor
