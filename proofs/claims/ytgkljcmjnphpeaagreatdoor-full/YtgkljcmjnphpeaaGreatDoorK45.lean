import Derived.Test.YtgkljcmjnphpeaaGreatDoorK44
set_option linter.unusedVariables false
set_option linter.unusedSimpArgs false
set_option maxHeartbeats 2000000
set_option maxRecDepth 100000
namespace Go.Proofs.YtgkljcmjnphpeaaGreatDoor
open Go.RowKit
section
variable{B br bf bd off cap:Nat}{d:List Nat}{most:Nat}{fixed:List Value}{w:World}{p held left window:Nat}{ov:Value}{out:List Nat}
theorem bn0{rr:List Bool}(hf:Fl B br bf bd off cap d most fixed w rr 32768 ov [])(hx:Fix w br bf fixed)(hb:BN most rr) :
  Calls Tryz.prog 161 #[.pointer (some ⟨bf,0,none⟩)] w fun e w'=>e=gU 6∧Kept 5 B [br,bf] w w':=by
 rcases hb with⟨b,r,rfl,hp⟩ | ⟨b,r,r',D,rfl,h0,h1,h2,h3,h4,h5⟩
 ·exact bfn b hx hf (by omega) hp
 ·exact bsn b D h0 h1 h2 hf h3 h4 (by simpa using h5)
theorem eq_yes(a0 a1 a2 a3:Nat)(data t:List Nat)(ht4:t.length=4)(htb:∀ i,i<4→nth t i<256)(h0:a0=nth t 0)(h1:a1=nth t 1)(h2:a2=nth t 2)(h3:a3=nth t 3)(hne:t=sum4 data)(W:World) :
  (Op.equalIn 10000 153 (.agg #[.int .u8 (a0:Int),.int .u8 (a1:Int),.int .u8 (a2:Int),.int .u8 (a3:Int)]) (.agg #[.int .u8 (((sumAB data).2:Int)/256),.int .u8 (((sumAB data).2:Int)%256),.int .u8 (((sumAB data).1:Int)/256),.int .u8 (((sumAB data).1:Int)%256)])).run Tryz.prog W=.ok true W:=by
 have hs:=sAl data
 have h:=re a0 a1 a2 a3 ((sumAB data).2/256) ((sumAB data).2%256) ((sumAB data).1/256) ((sumAB data).1%256) (by rw[h0];exact htb 0 (by omega)) (by rw[h1];exact htb 1 (by omega)) (by rw[h2];exact htb 2 (by omega)) (by rw[h3];exact htb 3 (by omega)) (by omega) (by omega) (by omega) (by omega) W
 have e:decide ([a0,a1,a2,a3]=[(sumAB data).2/256,(sumAB data).2%256,(sumAB data).1/256,(sumAB data).1%256])=true:=by
  rw[decide_eq_true_iff,h0,h1,h2,h3,hne]
  rfl
 rw[e]at h
 simpa using h
theorem dFo(h:Rd B br bd off cap d most w 0 ov [])(hl:2≤d.length)(d0:nth d 0=120)(d1:nth d 1=156){r:List Bool}{data:List Nat}
  (hbk:Blocks 32768 most (Fo.bitsOf (d.drop 2)) [] r data) (t:List Nat) (ht4:t.length=4) (htb:∀ i,i<4→nth t i<256) (hr:r.drop (r.length%8)=Fo.bitsOf t) (hne:t=sum4 data) (hdb:∀ i,i<data.length→nth data i<256) :
  Calls Tryz.prog 116 #[.pointer (some ⟨br,0,none⟩)] w fun e w'=>e=.returned (.tuple #[])∧∃ ov',Rd B br bd off cap d most w' d.length ov' data∧Kept 5 B [br] w w':=by
 have HBK:=hide hbk
 have HR:=hide hr
 have HNE:=hide hne
 clear hbk hr hne
 go_enter Tryz.func116,Tryz.ntmps116
 go_wp2_with fail
 refine fCo.mono ?_
 rintro e w1 ⟨g1,g2,rfl,i1,i2,b1,q1,q2⟩
 have hbuild:=hide (fun W=>list38 (fC g1 g2) W br (fCl g1 g2))
 have tokb:True:=trivial
 generalize hF:fC g1 g2=F at *
 have HF:=hide hF
 clear hF
 go_wp2_with (have _t:=tokb;refine wLb (by rfl) 167 0 2 (.tmp 4) (.tmp 5) (by rfl) _ _ _ (by rfl) (by rfl) hbuild.o ?_;clear tokb)
 have r1:=h.ofBelow b1
 have hbr:=lt_of_block h.blk
 have hb2:=Bi.start (F:=F) r1
 have hx2:=Fix.start (br:=br) i1 i2 (.cells (Value.pointer (some ⟨br,0,none⟩)::.int .u8 0::.int .i64 0::.int .i64 0::F).toArray 167 (0,0)) (by omega) (by omega)
 rw[HF.o]at hx2
 have kk0:Below w.heap.size w (w1.alloc (.cells (Value.pointer (some ⟨br,0,none⟩)::.int .u8 0::.int .i64 0::.int .i64 0::F).toArray 167 (0,0))):=b1.alloc b1.size _
 clear i1 i2 r1 hbuild HF q1 q2
 have hbs:=b1.size
 clear b1
 refine(heo hb2 hl d0 d1).mono ?_
 rintro e w2 ⟨rfl,hb3,kh⟩
 have hx3:=hx2.kept kh
 have hf3:Fl B br w1.heap.size bd off cap d most F w2 (Fo.bitsOf (d.drop 2)) 32768 ov []:=⟨2,0,0,hb3,by omega,by simp[bL,Fo.numBits]⟩
 clear hb2 hx2 hb3 d0 d1
 go_wp2_with fail
 go_loopw [11] (fun _ wr=>∃(rr:List Bool) (o:List Nat) (ov':Value),Fl B br w1.heap.size bd off cap d most F wr rr 32768 ov' o∧Fix wr br w1.heap.size F∧Hid (Blocks 32768 most rr o r data)∧Kept 5 B [br,w1.heap.size] w2 wr) (fun _ wr=>bO br w1.heap.size d.length wr)
 case atStart=>exact⟨_,_,ov,hf3,hx3,HBK,Kept.refl _ _ _ _⟩
 clear hf3 hx3 HBK
 case round =>
  obtain⟨rr,o,ov',hf,hx,HB2,kk⟩:=hrel
  have hm:=hide hf.measure
  have hcase:=blc hf hx HB2.o
  clear HB2
  rcases hcase with hlast | ⟨r2,o2,hmore,hsh,hb5⟩
  ·have HL:=hide hlast
   clear hlast hm
   go_wp2_with fail
   refine HL.o.mono ?_
   rintro e w3 ⟨rfl,ov3,hf3,k3⟩
   have k23:=kk.trans k3
   clear kk k3 HL hf hx
   go_wp2_with fail
   refine(alo hf3).mono ?_
   rintro e w4 ⟨rfl,⟨p4,held4,hb4,hq4⟩,k4⟩
   rw[HR.o]at hq4
   have k24:=k23.trans k4
   clear k23 k4 hf3
   obtain⟨z1,z2,z3⟩:=hb4.bytes t (by rw[ht4];exact htb) [] (by rw[hq4];simp)
   have c0:=hb4.c0
   have c2:=hb4.rd.c2
   obtain⟨ao,oc,hov,_⟩:=hb4.rd.datOut hdb
   subst hov
   have hl4:=hb4.rd.lm
   have hl5:=hb4.rd.lo
   rw[ht4]at z1 z2
   have y0:=z2 0 (by omega)
   have y1:=z2 1 (by omega)
   have y2:=z2 2 (by omega)
   have y3:=z2 3 (by omega)
   have Y:=hide (And.intro y0 (And.intro y1 (And.intro y2 y3)))
   have hend:p4+4=d.length:=by
    have:=congrArg List.length z3
    rw[Fo.bitsOf_length,List.length_drop,ht4]at this
    simp at this;omega
   clear z2 z3 y0 y1 y2 y3 hq4
   have hl6:data.length≤1000000000:=by omega
   have haa:=raA bd (off+p4) (cap-p4)
   have heq:=eq_yes (nth d p4) (nth d (p4+1)) (nth d (p4+2)) (nth d (p4+3)) data t ht4 htb (by have:=Y.o.1;simpa using this) Y.o.2.1 Y.o.2.2.1 Y.o.2.2.2 HNE.o
   go_wp2_with fail
   refine wrT (Sfl w1.heap.size br bd (off+p4) (.pointer (some ⟨br,0,none⟩)) (.slice ao data.length oc) d p4) (by kernel_rfl) ?_
   intro hD
   have hS:Sfl w1.heap.size br bd (off+p4) (.pointer (some ⟨br,0,none⟩)) (.slice ao data.length oc) d p4 (Array.replicate 19 false) w4.drew:=sfl (hb4.drewN 1) z1
   refine tk 0 ?_ hD ?_ hS ?_
   rotate_left
   ·intro W hW;obtain⟨_,_,_,f0,f1,f2,f3,f4,f5⟩:=hW;go_simp;try(with_reducible rfl)
   clear hD hS;intro hD hS;(try simp only[setL])
   refine tk 1 ?_ hD ?_ hS ?_
   rotate_left
   ·intro W hW;obtain⟨_,_,_,f0,f1,f2,f3,f4,f5⟩:=hW;go_simp;try(with_reducible rfl)
   clear hD hS;intro hD hS;(try simp only[setL])
   refine tk 2 ?_ hD ?_ hS ?_
   rotate_left
   ·intro W hW;obtain⟨_,_,_,f0,f1,f2,f3,f4,f5⟩:=hW;go_simp;try(with_reducible rfl)
   clear hD hS;intro hD hS;(try simp only[setL])
   refine tk 3 ?_ hD ?_ hS ?_
   rotate_left
   ·intro W hW;obtain⟨_,_,_,f0,f1,f2,f3,f4,f5⟩:=hW;go_simp;try(with_reducible rfl)
   clear hD hS;intro hD hS;(try simp only[setL])
   refine tk 4 ?_ hD ?_ hS ?_
   rotate_left
   ·intro W hW;obtain⟨_,_,_,f0,f1,f2,f3,f4,f5⟩:=hW;go_simp;try(with_reducible rfl)
   clear hD hS;intro hD hS;(try simp only[setL])
   refine tk 8 ?_ hD ?_ hS ?_
   rotate_left
   ·intro W hW;obtain⟨_,_,_,f0,f1,f2,f3,f4,f5⟩:=hW;go_simp;try(with_reducible rfl)
   clear hD hS;intro hD hS;(try simp only[setL])
   refine tk 9 ?_ hD ?_ hS ?_
   rotate_left
   ·intro W hW;obtain⟨_,_,_,f0,f1,f2,f3,f4,f5⟩:=hW;go_simp;try(with_reducible rfl)
   clear hD hS;intro hD hS;(try simp only[setL])
   refine tk 10 ?_ hD ?_ hS ?_
   rotate_left
   ·intro W hW;obtain⟨_,_,_,f0,f1,f2,f3,f4,f5⟩:=hW;go_simp;try(with_reducible rfl)
   clear hD hS;intro hD hS;(try simp only[setL])
   refine tk 11 ?_ hD ?_ hS ?_
   rotate_left
   ·intro W hW;obtain⟨_,_,_,f0,f1,f2,f3,f4,f5⟩:=hW;go_simp;try(with_reducible rfl)
   clear hD hS;intro hD hS;(try simp only[setL])
   refine tk 12 ?_ hD ?_ hS ?_
   rotate_left
   ·intro W hW;obtain⟨_,_,_,f0,f1,f2,f3,f4,f5⟩:=hW;go_simp;try(with_reducible rfl)
   clear hD hS;intro hD hS;(try simp only[setL])
   refine tk 13 ?_ hD ?_ hS ?_
   rotate_left
   ·intro W hW;obtain⟨_,_,_,f0,f1,f2,f3,f4,f5⟩:=hW;go_simp;try(with_reducible rfl)
   clear hD hS;intro hD hS;(try simp only[setL])
   refine tk 14 ?_ hD ?_ hS ?_
   rotate_left
   ·intro W hW;obtain⟨_,_,_,f0,f1,f2,f3,f4,f5⟩:=hW;go_simp;try(with_reducible rfl)
   clear hD hS;intro hD hS;(try simp only[setL])
   refine tk 15 ?_ hD ?_ hS ?_
   rotate_left
   ·intro W hW;obtain⟨_,_,_,f0,f1,f2,f3,f4,f5⟩:=hW;go_simp;try(with_reducible rfl)
   clear hD hS;intro hD hS;(try simp only[setL])
   refine on 5 hD fun K' hK=>?_
   go_simp
   refine(tao (hb4.rd.drewN 1) 4 (by omega) z1).mono ?_
   rintro e w5 ⟨rfl,r5,k5⟩
   have h5:=hb4.rdKept r5 (((Kept.refl _ _ _ _).drewN 1).trans k5)
   refine hK.o _ _ (sfl h5 z1) (fun hD2 hS2=>?_)
   clear hD hS hK K'
   have hD:=hD2
   have hS:=hS2
   clear hD2 hS2
   (try simp only[setL])
   refine tk 6 ?_ hD ?_ hS ?_
   rotate_left
   ·intro W hW;obtain⟨_,_,_,f0,f1,f2,f3,f4,f5⟩:=hW;go_simp;try(with_reducible rfl)
   clear hD hS;intro hD hS;(try simp only[setL])
   refine tk 7 ?_ hD ?_ hS ?_
   rotate_left
   ·intro W hW;obtain⟨_,_,_,f0,f1,f2,f3,f4,f5⟩:=hW;go_simp;try(with_reducible rfl)
   clear hD hS;intro hD hS;(try simp only[setL])
   refine on 16 hD fun K' hK=>?_
   go_simp
   refine(suo (B:=w5.heap.size) (w:=w5) ao oc data (Nat.le_refl _) (Rd.datOut' r5) hl6 hdb).mono ?_
   rintro e w6 ⟨rfl,o6,rfl⟩
   refine hK.o _ _ (sfl (h5.alloc o6) z1) (fun hD2 hS2=>?_)
   clear hD hS hK K'
   have hD:=hD2
   have hS:=hS2
   clear hD2 hS2
   unfold suV
   (try simp only[setL])
   refine tk 17 ?_ hD ?_ hS ?_
   rotate_left
   ·intro W hW;obtain⟨_,_,_,f0,f1,f2,f3,f4,f5⟩:=hW;go_simp;try(with_reducible rfl)
   clear hD hS;intro hD hS;(try simp only[setL])
   refine on 18 hD fun K' hK=>?_
   go_simp
   refine(muy _).mono ?_
   rintro e w7 ⟨rfl,rfl⟩
   refine hK.o _ _ (sfl (h5.alloc o6) z1) (fun hD2 hS2=>?_)
   clear hD hS hK K' hD2 hS2
   refine wATd (by kernel_rfl) ?_ _
   have h6:=h5.alloc o6
   have g0:=h6.c0
   have r6:=h6.rd
   have HK6:=hide (ket kk0 (((kh.trans k24).drewN 1).trans ((k5.mono (by simp)).alloc o6)) hbs)
   rw[hend]at r6
   clear h5 r5 k5 haa heq c0 c2 hb4 kh k24 h h6
   go_wp2_with fail
   refine(eo r6).mono ?_
   rintro e w7 ⟨rfl,q,rfl⟩
   go_wp2
   go_end0
   exact⟨rfl,_,r6.drewN q,HK6.o.drewN q⟩
  ·have HM:=hide hmore
   have HB5:=hide hb5
   clear hmore hb5
   go_wp2_with fail
   refine HM.o.mono ?_
   rintro e w3 ⟨rfl,ov3,hf3,k3⟩
   have hm2:=hide hf3.measure
   have hx3:=hx.kept k3
   go_wp2
   go_roundw
   case rel=>exact⟨_,_,ov3,hf3,hx3,HB5,kk.trans k3⟩
   case measure=>rw[hm.o,hm2.o];exact hsh
theorem dFc(h:Rd B br bd off cap d most w 0 ov [])(hl:2≤d.length)(d0:nth d 0=120)(d1:nth d 1=156)(hbk:BN most (Fo.bitsOf (d.drop 2))) :
  Calls Tryz.prog 116 #[.pointer (some ⟨br,0,none⟩)] w fun e w'=>e=gU 6∧Kept 5 B [br] w w':=by
 have HBK:=hide hbk
 clear hbk
 go_enter Tryz.func116,Tryz.ntmps116
 go_wp2_with fail
 refine fCo.mono ?_
 rintro e w1 ⟨g1,g2,rfl,i1,i2,b1,q1,q2⟩
 have hbuild:=hide (fun W=>list38 (fC g1 g2) W br (fCl g1 g2))
 have tokb:True:=trivial
 generalize hF:fC g1 g2=F at *
 have HF:=hide hF
 clear hF
 go_wp2_with (have _t:=tokb;refine wLb (by rfl) 167 0 2 (.tmp 4) (.tmp 5) (by rfl) _ _ _ (by rfl) (by rfl) hbuild.o ?_;clear tokb)
 have r1:=h.ofBelow b1
 have hbr:=lt_of_block h.blk
 have hb2:=Bi.start (F:=F) r1
 have hx2:=Fix.start (br:=br) i1 i2 (.cells (Value.pointer (some ⟨br,0,none⟩)::.int .u8 0::.int .i64 0::.int .i64 0::F).toArray 167 (0,0)) (by omega) (by omega)
 rw[HF.o]at hx2
 have kk0:Below w.heap.size w (w1.alloc (.cells (Value.pointer (some ⟨br,0,none⟩)::.int .u8 0::.int .i64 0::.int .i64 0::F).toArray 167 (0,0))):=b1.alloc b1.size _
 clear i1 i2 r1 hbuild HF q1 q2
 have hbs:=b1.size
 clear b1
 refine(heo hb2 hl d0 d1).mono ?_
 rintro e w2 ⟨rfl,hb3,kh⟩
 have hx3:=hx2.kept kh
 have hf3:Fl B br w1.heap.size bd off cap d most F w2 (Fo.bitsOf (d.drop 2)) 32768 ov []:=⟨2,0,0,hb3,by omega,by simp[bL,Fo.numBits]⟩
 clear hb2 hx2 hb3 d0 d1
 go_wp2_with fail
 go_loopw [11] (fun _ wr=>wr=w2) (fun _ _=>0)
 case atStart=>rfl
 case round =>
  subst hrel
  go_wp2_with fail
  refine(bn0 hf3 hx3 HBK.o).mono ?_
  rintro e w3 ⟨rfl,k3⟩
  exact⟨rfl,rfl,ket kk0 (kh.trans k3) hbs⟩
end
section
variable{B br bd off cap:Nat}{d:List Nat}{most:Nat}{w:World}{p:Nat}{ov:Value}{out:List Nat}
theorem news1'{w:World}{a:Nat}:∀ j u,([a].map fun x:Nat=>Value.int .u8 (x:Int))[j]?=some u→(w.alloc (.cells #[.int .u8 (a:Nat)] 5)).cell? ((⟨w.heap.size,0,none⟩:Addr).add j)=some u:=by
 intro j u hu
 match j,hu with
 |0,hu=>rw[aa,World.cell?_alloc_new];exact hu
 |j+1,hu=>simp at hu
theorem pro(h:Rd B br bd off cap d most w p ov out)(b n:Nat)(hb:b<256)(hn:n≤1000000)(ho:out.length+n≤most) :
  Calls Tryz.prog 218 #[.pointer (some ⟨br,0,none⟩),.int .u8 b,.int .i64 n] w fun e w'=>e=.returned (.tuple #[])∧∃ ov',Rd B br bd off cap d most w' p ov' (out++List.replicate n b)∧Kept 5 B [br] w w':=by
 obtain⟨i0,hi,hz0,hz1,hz2⟩:=info_parts Tryz.infoByte
 have HR:=hide (roo h n ho)
 go_enter Tryz.func218,Tryz.ntmps218
 go_wp2_with fail
 refine HR.o.mono ?_
 rintro e w1 ⟨rfl,q,rfl⟩
 go_wp2
 go_loopw [10] (fun i wr=>∃(k:Nat) (ov':Value),k≤n∧i=.int .i64 k∧Rd B br bd off cap d most wr p ov' (out++List.replicate k b)∧Kept 5 B [br] w wr) (fun i _=>n-(intOf i).toNat)
 case atStart=>exact⟨0,ov,Nat.zero_le _,rfl,by simpa using h.drewN q,(Kept.refl _ _ _ _).drewN q⟩
 clear HR h
 case round =>
  obtain⟨k,ov',hk,rfl,r,kk⟩:=hrel
  have hlen:(out++List.replicate k b).length=out.length+k:=by simp
  by_cases hlt:k<n
  ·have HS:Hid (out++List.replicate (k+1) b=(out++List.replicate k b)++[b]):=by
    unfold Hid
    rw[List.replicate_succ',List.append_assoc]
   have hlm:=r.lm
   have hlo:(out++List.replicate k b).length≤1000000:=by omega
   have ho1:(out++List.replicate k b).length+1≤most:=by omega
   clear hlen
   generalize out++List.replicate k b=o at *
   have c2:=r.c2
   have hs:=r.sz
   have HRr:=hide r
   have KK:=hide kk
   clear r kk
   go_wp2_with (at_builtin;refine wpList_append_own _ rfl (.tmp 16) (.tmp 18) 23 rfl B 5 i0 (.int .u8 0) 1 1 Tryz.underlying23 hi hz0 hz1 hz2 rfl (by decide) ov' o.length _ rfl (HRr.o.alloc _).own ⟨wr.heap.size,0,none⟩ 1 1 ([b].map fun x:Nat=>.int .u8 (x:Int)) rfl rfl ?hnews ?hone ?h63 ?hby ?hbs ?_)
   case hnews=>exact news1'
   case hone=>intro u hu;simp at hu;subst hu;rfl
   case h63=>unfold maxLen;omega
   case hby=>omega
   case hbs=>simp;omega
   intro v' w2 hown hg0 _
   have hg:(wr.alloc (.cells #[.int .u8 (b:Nat)] 5)).grownBy w2 ov'.ownBlock:=⟨hg0.os,hg0.tape,hg0.output,hg0.size,hg0.block⟩
   clear hg0
   have hkb:=(HRr.o.alloc (.cells #[.int .u8 (b:Nat)] 5)).grown_blk hg
   have k2:w2.cell? ⟨br,2,none⟩=some ov':=ceb hkb
   have f2:w2.frozen? ⟨br,2,none⟩=false:=frb hkb
   obtain⟨ao,oc,rfl⟩:=ows hown
   have R:=hide ((HRr.o.alloc (.cells #[.int .u8 (b:Nat)] 5)).put (xs:=[b]) ho1 hown hg)
   have K2:=hide (((KK.o.alloc (.cells #[.int .u8 (b:Nat)] 5)).grown hg (owr (HRr.o.alloc _).own)).setCell (p:=⟨br,2,none⟩) (by simp) (.slice ao (o.length+1) oc))
   clear hown hg hkb HRr KK
   go_wp2
   go_roundw
   case rel=>exact⟨k+1,_,by omega,by go_num,by rw[HS.o];exact R.o,K2.o⟩
   case measure=>simp[intOf];omega
  ·obtain rfl:k=n:=by omega
   go_wp2
   go_end0
   exact⟨rfl,ov',r,kk⟩
theorem ren(h:Rd B br bd off cap d most w p ov out)(b n:Nat)(hn:n≤1000000)(ho:most<out.length+n) :
  Calls Tryz.prog 218 #[.pointer (some ⟨br,0,none⟩),.int .u8 b,.int .i64 n] w fun e w'=>e=gU 6∧Kept 5 B [br] w w':=by
 have HR:=hide (rn h n hn ho)
 go_enter Tryz.func218,Tryz.ntmps218
 go_wp2_with fail
 refine HR.o.mono ?_
 rintro e w1 ⟨rfl,q,rfl⟩
 exact⟨rfl,rfl,(Kept.refl _ _ _ _).drewN q⟩
theorem re_(hp:p<d.length)(h1:nth d p=128):PGo 158 B br bd off cap d most p out false (p+1) out:=by
 intro w ov h
 have HN:=hide (neo h hp)
 rw[h1]at HN
 go_enter Tryz.func158,Tryz.ntmps158
 go_wp2_with fail
 refine HN.o.mono ?_
 rintro e w1 ⟨rfl,r1,k1⟩
 go_wp2
 go_ret
 exact⟨rfl,ov,r1,k1⟩
theorem rs0(n x:Nat)(hn:2≤n)(hn2:n≤128)(hp:p+1<d.length)(h1:nth d p=257-n)(h2:nth d (p+1)=x)(hx:x<256)(ho:out.length+n≤most):PGo 158 B br bd off cap d most p out true (p+2) (out++List.replicate n x):=by
 intro w ov h
 have HN:=hide (neo h (by omega))
 rw[h1]at HN
 obtain⟨m,hm⟩:∃ m,m=257-n:=⟨_,rfl⟩
 rw[←hm]at HN
 have e1:((m:Int)==128)=false:=by simp;omega
 have e2:¬ (m:Int)<128:=by omega
 have em:(257:Int)-m=n:=by omega
 have hm2:m≤255:=by omega
 clear hm
 go_enter Tryz.func158,Tryz.ntmps158
 go_wp2_with fail
 refine HN.o.mono ?_
 rintro e w1 ⟨rfl,r1,k1⟩
 have HN2:=hide (neo r1 hp)
 rw[h2]at HN2
 go_wp2_with fail
 refine HN2.o.mono ?_
 rintro e w2 ⟨rfl,r2,k2⟩
 go_wp2_with fail
 refine(pro r2 x n hx (by omega) ho).mono ?_
 rintro e w3 ⟨rfl,ov3,r3,k3⟩
 go_wp2
 go_ret
 exact⟨rfl,ov3,r3,(k1.trans k2).trans k3⟩
theorem rsc(n x:Nat)(hn:2≤n)(hn2:n≤128)(hp:p+1<d.length)(h1:nth d p=257-n)(h2:nth d (p+1)=x)(ho:most<out.length+n):PNo 158 B br bd off cap d most p out 6:=by
 intro w ov h
 have HN:=hide (neo h (by omega))
 rw[h1]at HN
 obtain⟨m,hm⟩:∃ m,m=257-n:=⟨_,rfl⟩
 rw[←hm]at HN
 have e1:((m:Int)==128)=false:=by simp;omega
 have e2:¬ (m:Int)<128:=by omega
 have em:(257:Int)-m=n:=by omega
 have hm2:m≤255:=by omega
 clear hm
 go_enter Tryz.func158,Tryz.ntmps158
 go_wp2_with fail
 refine HN.o.mono ?_
 rintro e w1 ⟨rfl,r1,k1⟩
 have HN2:=hide (neo r1 hp)
 rw[h2]at HN2
 go_wp2_with fail
 refine HN2.o.mono ?_
 rintro e w2 ⟨rfl,r2,k2⟩
 go_wp2_with fail
 refine(ren r2 x n (by omega) ho).mono ?_
 rintro e w3 ⟨rfl,k3⟩
 exact⟨rfl,rfl,(k1.trans k2).trans k3⟩
theorem rum(n:Nat)(D:List Nat)(hn:1≤n)(hn2:n≤128)(hD:D.length=n)(hp:p+1+n≤d.length)(h1:nth d p=n-1)(h2:∀ i,i<n→nth d (p+1+i)=nth D i)(ho:out.length+n≤most):PGo 158 B br bd off cap d most p out true (p+1+n) (out++D):=by
 intro w ov h
 have HN:=hide (neo h (by omega))
 rw[h1]at HN
 obtain⟨m,rfl⟩:∃ m,n=m+1:=⟨n-1,by omega⟩
 rw[Nat.add_sub_cancel]at HN
 have e1:((m:Int)==128)=false:=by simp;omega
 have e2:(m:Int)<128:=by omega
 have H2:=hide h2
 clear h2
 go_enter Tryz.func158,Tryz.ntmps158
 go_wp2_with fail
 refine HN.o.mono ?_
 rintro e w1 ⟨rfl,r1,k1⟩
 have HT:=hide (tao r1 (m+1) (by omega) hp)
 go_wp2_with fail
 refine HT.o.mono ?_
 rintro e w2 ⟨rfl,r2,k2⟩
 have HP:=hide (puo r2 D ⟨bd,off+(p+1),none⟩ (cap-(p+1)) (by rw[hD];exact ho) (by have:=r2.sz;omega) (fun i hi=>by rw[ada,←H2.o i (by omega),Nat.add_assoc];exact r2.dat (p+1+i) (by omega)))
 rw[hD]at HP
 go_wp2_with fail
 refine HP.o.mono ?_
 rintro e w3 ⟨rfl,ov3,r3,k3⟩
 go_wp2
 go_ret
 exact⟨rfl,ov3,r3,(k1.trans k2).trans k3⟩
theorem rmc(n:Nat)(hn:1≤n)(hn2:n≤128)(hp:p+1+n≤d.length)(h1:nth d p=n-1)(ho:most<out.length+n):PNo 158 B br bd off cap d most p out 6:=by
 intro w ov h
 have HN:=hide (neo h (by omega))
 rw[h1]at HN
 obtain⟨m,rfl⟩:∃ m,n=m+1:=⟨n-1,by omega⟩
 rw[Nat.add_sub_cancel]at HN
 have e1:((m:Int)==128)=false:=by simp;omega
 have e2:(m:Int)<128:=by omega
 go_enter Tryz.func158,Tryz.ntmps158
 go_wp2_with fail
 refine HN.o.mono ?_
 rintro e w1 ⟨rfl,r1,k1⟩
 have HT:=hide (tao r1 (m+1) (by omega) hp)
 go_wp2_with fail
 refine HT.o.mono ?_
 rintro e w2 ⟨rfl,r2,k2⟩
 go_wp2_with fail
 refine(pun r2 (m+1) _ _ (by omega) ho).mono ?_
 rintro e w3 ⟨rfl,q,rfl⟩
 exact⟨rfl,rfl,(k1.trans k2).drewN q⟩
theorem nod{q:Nat}{A R:List Nat}(h:d.drop q=A++R)(i:Nat)(hi:i<A.length):nth d (q+i)=nth A i:=by
 have e:nth (d.drop q) i=nth d (q+i):=by simp[nth,List.getElem?_drop]
 rw[←e,h]
 simp[nth,List.getElem?_append_left hi]
theorem lod{q:Nat}{X:List Nat}(h:d.drop q=X)(hX:0<X.length):d.length=q+X.length:=by
 have:=congrArg List.length h
 rw[List.length_drop]at this
 omega
theorem dm{data:List Nat}{p:Nat}{A R:List Nat}(h:data.drop p=A++R):data.drop (p+A.length)=R:=by
 rw[←List.drop_drop,h,List.drop_left' rfl]
namespace Fo
def runCore:Nat→List Nat→List Nat
 |0,_=>[]
 |f+1,l=>if l.length=0 then[]else if 1<sameN l then(257-sameN l)::nth l 0::runCore f (l.drop (sameN l))else(mixN l-1)::(l.take (mixN l)++runCore f (l.drop (mixN l)))
theorem runGo_core:∀(f:Nat) (l:List Nat),runGo f l=runCore f l++[128]
 |0,l=>rfl
 |f+1,l=>by
  unfold runGo runCore
  split
  ·rfl
  ·split
   ·rw[runGo_core f];rfl
   ·rw[runGo_core f];simp
theorem sameN_rep(l:List Nat)(h:0<l.length):l.take (sameN l)=List.replicate (sameN l) (nth l 0):=by
 have hle:=sameN_le l h
 have hs:∀ i,i<sameN l→nth l i=nth l 0:=sGs l 128 1 (fun i hi=>by rw[show i=0 by omega])
 apply List.ext_getElem
 ·rw[List.length_take,List.length_replicate];omega
 ·intro i h1 h2
  rw[List.length_replicate]at h2
  have:=hs i h2
  rw[List.getElem_take,List.getElem_replicate,←this]
  simp[nth,show i<l.length by omega]
theorem runCore_len:∀(f:Nat) (l:List Nat),(runCore f l).length≤2*l.length
 |0,l=>by simp[runCore]
 |f+1,l=>by
  unfold runCore
  split
  ·simp
  ·rename_i h0
   have h0':0<l.length:=by omega
   split
   ·rename_i h1
    have:=sameN_le l h0'
    have ih:=runCore_len f (l.drop (sameN l))
    rw[List.length_drop]at ih
    simp only[List.length_cons];omega
   ·rename_i h1
    have:=mixN_le l h0' h1
    have ih:=runCore_len f (l.drop (mixN l))
    rw[List.length_drop]at ih
    simp only[List.length_cons,List.length_append,List.length_take];omega
theorem runCore_byte:∀(f:Nat) (l:List Nat),(∀ x∈l,x<256)→∀ x∈runCore f l,x<256
 |0,l,_=>by simp[runCore]
 |f+1,l,hl=>by
  unfold runCore
  split
  ·simp
  ·rename_i h0
   have h0':0<l.length:=by omega
   split
   ·rename_i h1
    have:=sameN_le l h0'
    intro x hx
    rcases List.mem_cons.1 hx with rfl | hx
    ·omega
    rcases List.mem_cons.1 hx with rfl | hx
    ·exact hl _ (by simp[nth,h0'])
    ·exact runCore_byte f _ (fun y hy=>hl y (List.mem_of_mem_drop hy)) x hx
   ·rename_i h1
    have:=mixN_le l h0' h1
    intro x hx
    rcases List.mem_cons.1 hx with rfl | hx
    ·omega
    rcases List.mem_append.1 hx with hx | hx
    ·exact hl x (List.mem_of_mem_take hx)
    ·exact runCore_byte f _ (fun y hy=>hl y (List.mem_of_mem_drop hy)) x hx
end Fo
theorem rus{data:List Nat}(byt:∀ x∈data,x<256){p q f:Nat}{T:List Nat}(hp:p<data.length)(hd:d.drop q=Fo.runCore (f+1) (data.drop p)++T) :
  ∃ n,1≤n∧p+n≤data.length∧(p+n≤most→∃ q',q<q'∧d.drop q'=Fo.runCore f (data.drop (p+n))++T∧PGo 158 B br bd off cap d most q (data.take p) true q' (data.take (p+n))) ∧
   (most<p+n→PNo 158 B br bd off cap d most q (data.take p) 6):=by
 have hlen:(data.take p).length=p:=by rw[List.length_take];omega
 have hl0:(data.drop p).length=data.length-p:=by rw[List.length_drop]
 have h0:0<(data.drop p).length:=by omega
 have hb:∀ x∈data.drop p,x<256:=fun x hx=>byt x (List.mem_of_mem_drop hx)
 have hx0:nth (data.drop p) 0<256:=by
  have e:nth (data.drop p) 0=(data.drop p)[0]:=by simp only[nth,List.getD_eq_getElem?_getD,List.getElem?_eq_getElem h0,Option.getD_some]
  rw[e];exact hb _ (List.getElem_mem h0)
 unfold Fo.runCore at hd
 rw[if_neg (by omega)]at hd
 by_cases hs:1<Fo.sameN (data.drop p)
 ·rw[if_pos hs]at hd
  have hle:=Fo.sameN_le _ h0
  have hrep:=Fo.sameN_rep _ h0
  generalize Fo.sameN (data.drop p)=S at *
  have ht:data.take p++List.replicate S (nth (data.drop p) 0)=data.take (p+S):=by rw[←hrep,←List.take_add]
  have hdr:(data.drop p).drop S=data.drop (p+S):=by rw[List.drop_drop]
  rw[hdr]at hd
  have hd2:d.drop q=[257-S,nth (data.drop p) 0]++(Fo.runCore f (data.drop (p+S))++T):=hd
  have hdl:=lod hd2 (by simp)
  simp only[List.length_append,List.length_cons,List.length_nil]at hdl
  have n0:nth d q=257-S:=nod hd2 0 (by simp)
  have n1:nth d (q+1)=nth (data.drop p) 0:=nod hd2 1 (by simp)
  refine⟨S,by omega,by omega,fun hm=>⟨q+2,by omega,dm (A:=[257-S,nth (data.drop p) 0]) hd2,?_⟩,fun hm=>?_⟩
  ·have:=rs0 (B:=B) (br:=br) (bd:=bd) (off:=off) (cap:=cap) (d:=d) (most:=most) (p:=q) (out:=data.take p) S (nth (data.drop p) 0) hs hle.2.1 (by omega) n0 n1 hx0 (by omega)
   rw[ht]at this
   exact this
  ·exact rsc S (nth (data.drop p) 0) hs hle.2.1 (by omega) n0 n1 (by omega)
 ·rw[if_neg hs]at hd
  have hle:=Fo.mixN_le _ h0 hs
  generalize Fo.mixN (data.drop p)=M at *
  have htl:((data.drop p).take M).length=M:=by rw[List.length_take];omega
  have ht:data.take p++(data.drop p).take M=data.take (p+M):=by rw[←List.take_add]
  have hdr:(data.drop p).drop M=data.drop (p+M):=by rw[List.drop_drop]
  rw[hdr]at hd
  have hd2:d.drop q=([M-1]++(data.drop p).take M)++(Fo.runCore f (data.drop (p+M))++T):=by rw[hd];simp
  have hl2:([M-1]++(data.drop p).take M).length=1+M:=by rw[List.length_append,htl];rfl
  have hdl:=lod hd2 (by rw[List.length_append,hl2];omega)
  rw[List.length_append,hl2]at hdl
  have n0:nth d q=M-1:=nod hd2 0 (by omega)
  have n1:∀ i,i<M→nth d (q+1+i)=nth ((data.drop p).take M) i:=by
   intro i hi
   have:=nod hd2 (1+i) (by omega)
   rw[←Nat.add_assoc]at this
   rw[this]
   simp[nth,Nat.add_comm 1 i]
  have hdm:=dm hd2
  rw[hl2]at hdm
  refine⟨M,by omega,by omega,fun hm=>⟨q+1+M,by omega,by rw[←hdm];congr 1;omega,?_⟩,fun hm=>?_⟩
  ·have:=rum (B:=B) (br:=br) (bd:=bd) (off:=off) (cap:=cap) (d:=d) (most:=most) (p:=q) (out:=data.take p) M ((data.drop p).take M) (by omega) (by omega) htl (by omega) n0 n1 (by omega)
   rw[ht]at this
   exact this
  ·exact rmc M (by omega) (by omega) (by omega) n0 (by omega)
theorem dRo(data:List Nat)(byt:∀ x∈data,x<256)(hd:d=Fo.encRun data)(h:Rd B br bd off cap d most w 0 ov [])(hm:data.length≤most) :
  Calls Tryz.prog 115 #[.pointer (some ⟨br,0,none⟩)] w fun e w'=>e=.returned (.tuple #[])∧∃ ov',Rd B br bd off cap d most w' d.length ov' data∧Kept 5 B [br] w w':=by
 refine dRi (fun q out=>∃ p f,p≤data.length∧data.length-p<f∧out=data.take p∧d.drop q=Fo.runCore f (data.drop p)++[128]) ?_ ⟨0,data.length+1,by omega,by omega,by simp,by rw[List.drop_zero,List.drop_zero,hd,Fo.encRun,Fo.runGo_core]⟩ h
 rintro q out ⟨p,f,hp,hf,rfl,hdr⟩ _
 by_cases hlt:p<data.length
 ·obtain⟨f',rfl⟩:∃ f',f=f'+1:=⟨f-1,by omega⟩
  obtain⟨n,n1,n2,hgo,hno⟩:=rus (B:=B) (br:=br) (bd:=bd) (off:=off) (cap:=cap) (most:=most) byt hlt hdr
  have HGO:=hide hgo
  have HNO:=hide hno
  clear hgo hno
  obtain⟨q',a1,a2,a3⟩:=HGO.o (by omega)
  exact Or.inl ⟨q',_,a1,⟨p+n,f',n2,by omega,rfl,a2⟩,a3⟩
 ·obtain rfl:p=data.length:=by omega
  have e0:Fo.runCore f (data.drop data.length)=[]:=by
   cases f with
   |zero=>rfl
   |succ f=>unfold Fo.runCore;rw[if_pos (by simp)]
  rw[e0,List.nil_append]at hdr
  have hl:=lod hdr (by simp)
  simp only[List.length_cons,List.length_nil]at hl
  right
  have:=re_ (B:=B) (br:=br) (bd:=bd) (off:=off) (cap:=cap) (d:=d) (most:=most) (p:=q) (out:=data.take data.length) (by omega) (nod (A:=[128]) (R:=[]) hdr 0 (by simp))
  rw[show q+1=d.length by omega]at this
  rw[List.take_length]at *
  exact this
theorem dRc(data:List Nat)(byt:∀ x∈data,x<256)(hd:d=Fo.encRun data)(h:Rd B br bd off cap d most w 0 ov [])(hm:most<data.length) :
  Calls Tryz.prog 115 #[.pointer (some ⟨br,0,none⟩)] w fun e w'=>e=gU 6∧Kept 5 B [br] w w':=by
 refine dRif (fun q out=>∃ p f,p≤data.length∧data.length-p<f∧out=data.take p∧d.drop q=Fo.runCore f (data.drop p)++[128]) ?_ ⟨0,data.length+1,by omega,by omega,by simp,by rw[List.drop_zero,List.drop_zero,hd,Fo.encRun,Fo.runGo_core]⟩ h
 rintro q out ⟨p,f,hp,hf,rfl,hdr⟩ hlo
 rw[List.length_take,Nat.min_eq_left hp]at hlo
 obtain⟨f',rfl⟩:∃ f',f=f'+1:=⟨f-1,by omega⟩
 obtain⟨n,n1,n2,hgo,hno⟩:=rus (B:=B) (br:=br) (bd:=bd) (off:=off) (cap:=cap) (most:=most) byt (by omega) hdr
 have HGO:=hide hgo
 have HNO:=hide hno
 clear hgo hno
 by_cases c:p+n≤most
 ·obtain⟨q',a1,a2,a3⟩:=HGO.o c
  exact Or.inl ⟨q',_,a1,⟨p+n,f',n2,by omega,rfl,a2⟩,a3⟩
 ·exact Or.inr (HNO.o (by omega))
end
end Go.Proofs.YtgkljcmjnphpeaaGreatDoor
