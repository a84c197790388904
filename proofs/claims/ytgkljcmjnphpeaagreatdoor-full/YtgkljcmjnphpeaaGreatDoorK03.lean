import Derived.Test.YtgkljcmjnphpeaaGreatDoorK02
set_option linter.unusedVariables false
set_option linter.unusedSimpArgs false
set_option maxHeartbeats 1000000
set_option maxRecDepth 100000
namespace Go.Proofs.YtgkljcmjnphpeaaGreatDoor
open Go.RowKit
section
variable{B bs cap:Nat}{ao:Option Addr}{data:List Nat}{x2 x3 x4:Value}{w w':World}{r q:List Nat}
def posS(bs:Nat)(w:World):Nat:=(intOf ((w.cell? ⟨bs,1,none⟩).getD undef)).toNat
theorem Sc.posS(h:Sc B bs ao cap data x2 x3 x4 w r):posS bs w=data.length-r.length:=by unfold Go.Proofs.YtgkljcmjnphpeaaGreatDoor.posS;rw[h.c1];simp[intOf]
theorem bo(x:UInt8):bl { data:=#[x] }=[x.toNat]:=rfl
theorem hei{r:List Nat}(h:([37]:List Nat).isPrefixOf r=true):∃ t,r=37::t:=by
 cases r with
 |nil=>cases h
 |cons a t=>simp[List.isPrefixOf]at h;exact⟨t,by rw[h]⟩
theorem hen{r:List Nat}(h:([37]:List Nat).isPrefixOf r=false)(hw:∀ b t,r=b::t→whB b=false):Fo.skip r=r:=by
 cases r with
 |nil=>rfl
 |cons a t =>
  refine Fo.skip_stop (hw a t rfl) (fun e=>?_)
  subst e;simp[List.isPrefixOf]at h
theorem dWh{p:Nat→Bool}:∀(r:List Nat) (b:Nat) (t:List Nat),r.dropWhile p=b::t→p b=false
 | [],b,t,h=>by cases h
 |x::r,b,t,h=>by
  rw[List.dropWhile_cons]at h
  cases hp:p x
  ·rw[hp]at h;cases h;exact hp
  ·rw[hp]at h;exact dWh r b t h
theorem Sc.white(h:Sc B bs ao cap data x2 x3 x4 w r):Calls Tryz.prog 188 #[.slice ao data.length cap,.int .i64 (data.length-r.length:Nat)] w.drew fun e w'=>e=.returned (.int .i64 (data.length-(r.dropWhile whB).length:Nat))∧w'=w.drew:=by
 have hl:=h.le
 have k:=skc (w:=w.drew) (B:=B) (p:=data.length-r.length) (h.dat.other (fun _ _=>rfl)) h.lc.1 h.lc.2 (by omega)
 refine k.mono ?_
 rintro e w' ⟨rfl,rfl⟩
 have e:=dsW data _ (data.length-r.length) rfl
 rw[h.suf]at e
 rw[←e,List.length_drop]
 have:=sWl (d:=data) (p:=data.length-r.length) (by omega)
 rw[show data.length-(data.length-skipW data (data.length-r.length))=skipW data (data.length-r.length)by omega]
 exact⟨rfl,rfl⟩
theorem Sc.line(h:Sc B bs ao cap data x2 x3 x4 w r):Calls Tryz.prog 189 #[.slice ao data.length cap,.int .i64 (data.length-r.length:Nat)] w.drew fun e w'=>e=.returned (.int .i64 (data.length-(Fo.skipLine r).length:Nat))∧w'=w.drew:=by
 have hl:=h.le
 have k:=lic (w:=w.drew) (B:=B) (p:=data.length-r.length) (h.dat.other (fun _ _=>rfl)) h.lc.1 h.lc.2 (by omega)
 refine k.mono ?_
 rintro e w' ⟨rfl,rfl⟩
 unfold lA
 rw[h.suf]
 exact⟨rfl,rfl⟩
theorem Sc.drew(h:Sc B bs ao cap data x2 x3 x4 w r):Sc B bs ao cap data x2 x3 x4 w.drew r:=h.drewN 1
theorem Sc.go(h:Sc B bs ao cap data x2 x3 x4 w r)(hq:q <:+ r):Sc B bs ao cap data x2 x3 x4 (w.setCell ⟨bs,1,none⟩ (.int .i64 (data.length-q.length:Nat))) q:=by
 have hl:=h.le
 have hql:=hq.length_le
 have:=h.at_ (data.length-q.length) (by omega)
 have e:data.drop (data.length-q.length)=q:=sud (hq.trans (by rw[←h.suf];exact List.drop_suffix _ _))
 rw[e]at this;exact this
theorem sso(h:Sc B bs ao cap data x2 x3 x4 w r) :
  Calls Tryz.prog 137 #[.pointer (some ⟨bs,0,none⟩)] w fun e w'=>e=.returned (.tuple #[])∧Sc B bs ao cap data x2 x3 x4 w' (Fo.skip r)∧Only bs w w':=by
 have H:=hide h
 have hn:=h.len
 clear h
 generalize hR:Fo.skip r=R at *
 have HR:=hide hR
 clear hR
 go_enter Tryz.func137,Tryz.ntmps137
 go_wp2
 refine wp_scope_jumps 0 (fun a' w'=>∃(q:List Nat) (y2 y3 y4 y5 y6 y7 y8 y9 y10 y11 y12 y13 y14 y15 y16 y17 y18 y19 y20 y21 y22 y23 y24 y25 y26 y27:Value),a'={ tmps:=#[.pointer (some ⟨bs,0,none⟩),undef,y2,y3,y4,y5,y6,y7,y8,y9,y10,y11,y12,y13,y14,y15,y16,y17,y18,y19,y20,y21,y22,y23,y24,y25,y26,y27],defers:=[] }∧Hid (Sc B bs ao cap data x2 x3 x4 w' q)∧Hid (Fo.skip q=R)∧Hid (Only bs w w')) (fun _ w'=>data.length-posS bs w') rfl ?_ ?_
 ·have c0:=H.o.c0
  have c1:=H.o.c1
  have f1:=H.o.fz 1
  have hle:=H.o.le
  have HW:=hide H.o.white
  have H1:=hide ((H.o.go (List.dropWhile_suffix whB)).drew)
  have HWH:Hid (∀ b t,r.dropWhile whB=b::t→whB b=false):=dWh r
  have HSK:=hide (Fo.skip_white r)
  have hdl:=Fo.dropWhile_len (p:=whB) r
  have HO1:Hid (Only bs w (w.setCell ⟨bs,1,none⟩ (.int .i64 (data.length-(r.dropWhile whB).length:Nat))).drew):=((Only.refl bs w).setCell _ _).drewN 1
  generalize r.dropWhile whB=q1 at *
  have hq1:data.length-q1.length≤200000:=by omega
  have HP:=hide (show data.length-r.length≤data.length-q1.length by omega)
  generalize hp:data.length-r.length=p at c1 HW
  generalize hp1:data.length-q1.length=p1 at HW H1 HO1
  have HP1:=hide hp1
  have HP0:=hide hp
  clear hp1 hp
  go_wp2_with fail
  go_step3
  go_wp2_with fail
  go_region_with (go_at_call 188;refine HW.o.mono ?_;rintro e w' ⟨rfl,rfl⟩)
  all_goals (
   clear c0 c1 f1
   generalize hw1:(w.setCell ⟨bs,1,none⟩ (.int .i64 (p1:Nat))).drew=w1 at *
   clear hw1
   have HA:=hide (so0 H1.o { data:=#[37] } (by decide) (by decide))
   rw[bo]at HA
   cases hpre:([37]:List Nat).isPrefixOf q1
   ·have HE:=hide (hen hpre HWH.o)
    rw[show(UInt8.toNat 37)=37 from rfl,hpre]at HA
    go_wp2_with fail
    refine HA.o.mono ?_
    rintro e w2 ⟨rfl,m,rfl⟩
    go_wp2
    simp only[Exit.jump]
    go_end0
    have hR:q1=R:=by rw[←HR.o,HSK.o,HE.o]
    refine⟨rfl,?_,HO1.o.drewN m⟩
    rw[←hR];exact H1.o.drewN m
   ·obtain⟨t,rfl⟩:=hei hpre
    rw[show(UInt8.toNat 37)=37 from rfl,hpre]at HA
    go_wp2_with fail
    refine HA.o.mono ?_
    rintro e w2 ⟨rfl,m,rfl⟩
    have H2:=hide (H1.o.drewN m)
    have HO2:=hide (HO1.o.drewN m)
    clear H1 HO1 HA
    generalize hw2:w1.drewN m=w2 at *
    clear hw2
    have d0:=H2.o.c0
    have d1:=H2.o.c1
    have g1:=H2.o.fz 1
    have HLN:=hide H2.o.line
    have hsl:Fo.skipLine (37::t)=Fo.skipLine t:=by simp[Fo.skipLine]
    have H3:=hide ((H2.o.go (q:=Fo.skipLine t) (by rw[←hsl];exact sLs _)).drew)
    have hl3:=Fo.skipLine_len t
    have HO3:Hid (Only bs w (w2.setCell ⟨bs,1,none⟩ (.int .i64 (data.length-(Fo.skipLine t).length:Nat))).drew):=(HO2.o.setCell _ _).drewN 1
    rw[hsl]at HLN
    have HR3:Hid (Fo.skip (Fo.skipLine t)=R):=by rw[←HR.o,HSK.o,Fo.skip_percent];exact rfl
    have hlt:=H2.o.le
    simp only[List.length_cons]at hlt hdl
    have HM3:=hide (show data.length-(data.length-(Fo.skipLine t).length)<data.length-(data.length-r.length)by omega)
    generalize Fo.skipLine t=q3 at *
    generalize hp2:data.length-(37::t).length=p2 at d1 HLN
    have hq3:data.length-q3.length≤200000:=by omega
    generalize hp3:data.length-q3.length=p3 at HLN H3 HO3
    clear hp2
    go_wp2_with fail
    go_region_with (go_at_call 189;refine HLN.o.mono ?_;rintro e w' ⟨rfl,rfl⟩)
    all_goals (
     clear d0 d1 g1 HLN H2 HO2
     go_wp2
     go_step3
     exact⟨rfl,_,_,_,_,_,_,_,_,_,_,_,_,_,_,_,_,_,_,_,_,_,_,_,_,_,_,_,rfl,H3,HR3,HO3⟩))
 ·rintro a' w0 ⟨q,y2,y3,y4,y5,y6,y7,y8,y9,y10,y11,y12,y13,y14,y15,y16,y17,y18,y19,y20,y21,y22,y23,y24,y25,y26,y27,rfl,HQ,HRQ,HOQ⟩
  have c0:=HQ.o.c0
  have c1:=HQ.o.c1
  have f1:=HQ.o.fz 1
  have hle:=HQ.o.le
  have HW:=hide HQ.o.white
  have H1:=hide ((HQ.o.go (List.dropWhile_suffix whB)).drew)
  have HWH:Hid (∀ b t,q.dropWhile whB=b::t→whB b=false):=dWh q
  have HSK:=hide (Fo.skip_white q)
  have hdl:=Fo.dropWhile_len (p:=whB) q
  have HO1:Hid (Only bs w (w0.setCell ⟨bs,1,none⟩ (.int .i64 (data.length-(q.dropWhile whB).length:Nat))).drew):=(HOQ.o.setCell _ _).drewN 1
  generalize q.dropWhile whB=q1 at *
  have hq1:data.length-q1.length≤200000:=by omega
  have HP:=hide (show data.length-q.length≤data.length-q1.length by omega)
  generalize hp:data.length-q.length=p at c1 HW
  generalize hp1:data.length-q1.length=p1 at HW H1 HO1
  have HP1:=hide hp1
  have HP0:=hide hp
  clear hp1 hp
  go_wp2_with fail
  go_region_with (go_at_call 188;refine HW.o.mono ?_;rintro e w' ⟨rfl,rfl⟩)
  all_goals (
   clear c0 c1 f1
   generalize hw1:(w0.setCell ⟨bs,1,none⟩ (.int .i64 (p1:Nat))).drew=w1 at *
   clear hw1
   have HA:=hide (so0 H1.o { data:=#[37] } (by decide) (by decide))
   rw[bo]at HA
   cases hpre:([37]:List Nat).isPrefixOf q1
   ·have HE:=hide (hen hpre HWH.o)
    rw[show(UInt8.toNat 37)=37 from rfl,hpre]at HA
    go_wp2_with fail
    refine HA.o.mono ?_
    rintro e w2 ⟨rfl,m,rfl⟩
    go_wp2
    simp only[Exit.jump]
    go_end0
    have hR:q1=R:=by rw[←HRQ.o,HSK.o,HE.o]
    refine⟨rfl,?_,HO1.o.drewN m⟩
    rw[←hR];exact H1.o.drewN m
   ·obtain⟨t,rfl⟩:=hei hpre
    rw[show(UInt8.toNat 37)=37 from rfl,hpre]at HA
    go_wp2_with fail
    refine HA.o.mono ?_
    rintro e w2 ⟨rfl,m,rfl⟩
    have H2:=hide (H1.o.drewN m)
    have HO2:=hide (HO1.o.drewN m)
    clear H1 HO1 HA
    generalize hw2:w1.drewN m=w2 at *
    clear hw2
    have d0:=H2.o.c0
    have d1:=H2.o.c1
    have g1:=H2.o.fz 1
    have HLN:=hide H2.o.line
    have hsl:Fo.skipLine (37::t)=Fo.skipLine t:=by simp[Fo.skipLine]
    have H3:=hide ((H2.o.go (q:=Fo.skipLine t) (by rw[←hsl];exact sLs _)).drew)
    have hl3:=Fo.skipLine_len t
    have HO3:Hid (Only bs w (w2.setCell ⟨bs,1,none⟩ (.int .i64 (data.length-(Fo.skipLine t).length:Nat))).drew):=(HO2.o.setCell _ _).drewN 1
    rw[hsl]at HLN
    have HR3:Hid (Fo.skip (Fo.skipLine t)=R):=by rw[←HRQ.o,HSK.o,Fo.skip_percent];exact rfl
    have hlt:=H2.o.le
    simp only[List.length_cons]at hlt hdl
    have HM3:=hide (show data.length-(data.length-(Fo.skipLine t).length)<data.length-(data.length-q.length)by omega)
    generalize Fo.skipLine t=q3 at *
    generalize hp2:data.length-(37::t).length=p2 at d1 HLN
    have hq3:data.length-q3.length≤200000:=by omega
    generalize hp3:data.length-q3.length=p3 at HLN H3 HO3
    clear hp2
    go_wp2_with fail
    go_region_with (go_at_call 189;refine HLN.o.mono ?_;rintro e w' ⟨rfl,rfl⟩)
    all_goals (
     clear d0 d1 g1 HLN H2 HO2
     go_wp2
     go_step3
     refine⟨rfl,⟨_,_,_,_,_,_,_,_,_,_,_,_,_,_,_,_,_,_,_,_,_,_,_,_,_,_,_,rfl,H3,HR3,HO3⟩,?_⟩
     rw[H3.o.posS,HQ.o.posS]
     exact HM3.o))
theorem ce(a:Option Addr)(c:Nat)(W:World):(convert 23 9 (.slice a 0 c)).run Tryz.prog W=.ok (.string { data:=#[] }) W:=by
 cases a with
 |none =>
  rw[run_convert_bytes_string W 23 9 5 none 0 c Tryz.underlying23 Tryz.underlying5 Tryz.underlying9]
  rfl
 |some a=>exact stc a c [] (fun j hj=>by cases hj)
def Taken(w:World)(B:Nat)(l:List Nat)(v:Value):Prop:=∃ bd o c,v=.slice (some ⟨bd,o,none⟩) l.length c∧bd<B∧l.length≤c∧c≤9223372036854775807∧∀ i,i<l.length→w.cell? ⟨bd,o+i,none⟩=some (.int .u8 (nth l i:Nat))
theorem Sc.taken(h:Sc B bs ao cap data x2 x3 x4 w r)(n:Nat)(hn:n≤r.length){bd o:Nat}(ha:ao=some ⟨bd,o,none⟩)(hb:bd<B)(W:World)(hW:∀ k,k<B→W.heap[k]?=w.heap[k]?) :
  Taken W B (r.take n) (.slice (if cap=data.length-r.length then some ⟨bd,o,none⟩else some ⟨bd,o+(data.length-r.length),none⟩) n (cap-(data.length-r.length))):=by
 have hl:(r.take n).length=n:=by rw[List.length_take];omega
 have hle:=h.le
 have hlc:=h.lc
 have hcell:∀ i,i<n→W.cell? ⟨bd,o+(data.length-r.length)+i,none⟩=some (.int .u8 (Go.Proofs.YtgkljcmjnphpeaaGreatDoor.nth (r.take n) i:Nat)):=fun i hi=>by
  obtain⟨b',o',e1,e2,e3⟩:=h.dat (data.length-r.length+i) (by omega)
  rw[ha]at e1
  cases e1
  rw[World.cell?_of_block (w:=w) (hW _ e2)]
  have e4:Go.Proofs.YtgkljcmjnphpeaaGreatDoor.nth (r.take n) i=Go.Proofs.YtgkljcmjnphpeaaGreatDoor.nth data (data.length-r.length+i):=by
   rw[←h.nthOf i (by omega)]
   unfold Go.Proofs.YtgkljcmjnphpeaaGreatDoor.nth
   rw[List.getD_eq_getElem?_getD,List.getD_eq_getElem?_getD,List.getElem?_take_of_lt hi]
  rw[e4,Nat.add_assoc];exact e3
 by_cases hc:cap=data.length-r.length
 ·rw[if_pos hc]
  refine⟨bd,o,cap-(data.length-r.length),by rw[hl],hb,by rw[hl];omega,by omega,fun i hi=>?_⟩
  rw[hl]at hi;omega
 ·rw[if_neg hc]
  refine⟨bd,o+(data.length-r.length),cap-(data.length-r.length),by rw[hl],hb,by rw[hl];omega,by omega,fun i hi=>?_⟩
  rw[hl]at hi;exact hcell i hi
theorem so_0(h:Sc B bs ao cap data x2 x3 x4 w r)(n:Nat)(hn:n≤r.length) :
  Calls Tryz.prog 257 #[.pointer (some ⟨bs,0,none⟩),.int .i64 n] w fun e w'=>∃ v,e=.returned v∧Taken w' B (r.take n) v∧Sc B bs ao cap data x2 x3 x4 w' (r.drop n)∧Only bs w w':=by
 have H:=hide h
 obtain⟨bd,o,rfl,hbd⟩:=h.ad
 have c0:=h.c0
 have c1:=h.c1
 have f1:=h.fz 1
 have hb:=h.hb
 have hle:=h.le
 have hln:=h.len
 obtain⟨hlc,hcm⟩:=h.lc
 have HS:Hid (∀ m,Sc B bs (some ⟨bd,o,none⟩) cap data x2 x3 x4 ((w.drewN m).setCell ⟨bs,1,none⟩ (.int .i64 (data.length-r.length+n:Nat))) (r.drop n)):=fun m=>(H.o.drewN m).set _ n rfl hn _ rfl
 have HT:Hid (∀ m,Taken ((w.drewN m).setCell ⟨bs,1,none⟩ (.int .i64 (data.length-r.length+n:Nat))) B (r.take n) (.slice (if cap=data.length-r.length then some ⟨bd,o,none⟩else some ⟨bd,o+(data.length-r.length),none⟩) n (cap-(data.length-r.length)))):=fun m=>H.o.taken n hn rfl hbd _ (fun k hk=>bsCn _ (by omega))
 clear h
 have hnI:(n:Int)≤(r.length:Int):=by omega
 have hpn:data.length-r.length+n≤data.length:=by omega
 generalize data.length-r.length=p at *
 have hw:IntKind.i64.wrap ((p:Int)+(n:Int))=((p+n:Nat):Int):=by rw[IntKind.wrap_i64];omega
 have hA:(0:Int)≤(p:Int)+(n:Int):=by omega
 have hA2:(p:Int)+(n:Int)≤(cap:Int):=by omega
 have hA3:((p:Int)+(n:Int)).toNat=p+n:=by omega
 by_cases hcp:cap=p
 ·subst hcp
  simp only[if_true,Nat.sub_self]at HT
  go_enter Tryz.func257,Tryz.ntmps257
  go_wp2_with fail
  refine(slo H.o).mono ?_
  rintro e w1 ⟨rfl,m1,rfl⟩
  go_wp2_with fail
  refine(wiy _ _ _ _ (by omega) hnI).mono ?_
  rintro e w1 ⟨rfl,rfl⟩
  go_wp2_with fail
  refine(smy _).mono ?_
  rintro e w1 ⟨rfl,rfl⟩
  go_wp2_with fail
  go_quiet (fail)
  go_wp2
  go_ret
  exact⟨_,rfl,HT.o _,HS.o _,((Only.refl _ _).drewN _).setCell _ _⟩
 ·simp only[if_neg hcp]at HT
  go_enter Tryz.func257,Tryz.ntmps257
  go_wp2_with fail
  refine(slo H.o).mono ?_
  rintro e w1 ⟨rfl,m1,rfl⟩
  go_wp2_with fail
  refine(wiy _ _ _ _ (by omega) hnI).mono ?_
  rintro e w1 ⟨rfl,rfl⟩
  go_wp2_with fail
  refine(smy _).mono ?_
  rintro e w1 ⟨rfl,rfl⟩
  go_wp2_with fail
  go_quiet (fail)
  go_wp2
  go_ret
  exact⟨_,rfl,HT.o _,HS.o _,((Only.refl _ _).drewN _).setCell _ _⟩
theorem stn(h:Sc B bs ao cap data x2 x3 x4 w r)(n:Int)(hn:n<0∨(r.length:Int)<n) :
  Calls Tryz.prog 257 #[.pointer (some ⟨bs,0,none⟩),.int .i64 n] w fun e w'=>e=gU 4∧∃ m,w'=w.drewN m:=by
 have HL:=hide (slo h)
 clear h
 go_enter Tryz.func257,Tryz.ntmps257
 go_wp2_with fail
 refine HL.o.mono ?_
 rintro e w1 ⟨rfl,m1,rfl⟩
 go_wp2_with fail
 refine(win _ _ _ _ hn).mono ?_
 rintro e w1 ⟨rfl,rfl⟩
 go_wp2_with fail
 refine(sn _).mono ?_
 rintro e w1 ⟨rfl,rfl⟩
 exact⟨rfl,rfl,m1,rfl⟩
theorem sno{b:Nat}{t:List Nat}(h:Sc B bs ao cap data x2 x3 x4 w (b::t)) :
  Calls Tryz.prog 304 #[.pointer (some ⟨bs,0,none⟩)] w fun e w'=>e=.returned (.int .u8 (b:Nat))∧Sc B bs ao cap data x2 x3 x4 w' t∧Only bs w w':=by
 have HK:=hide (so_0 h 1 (by simp))
 clear h
 go_enter Tryz.func304,Tryz.ntmps304
 go_wp2_with fail
 refine HK.o.mono ?_
 rintro e w1 ⟨v,rfl,⟨bd,o,c,rfl,_,_,_,hc⟩,h1,k1⟩
 have h0:=hc 0 (by simp)
 simp only[List.take_succ_cons,List.take_zero,List.length_cons,List.length_nil]at h0 ⊢
 rw[show nth [b] 0=b from rfl,Nat.add_zero]at h0
 have H1:=hide h1
 have K1:=hide k1
 clear hc h1 k1
 go_wp2
 go_ret
 exact⟨rfl,H1.o,K1.o⟩
theorem snn(h:Sc B bs ao cap data x2 x3 x4 w []) :
  Calls Tryz.prog 304 #[.pointer (some ⟨bs,0,none⟩)] w fun e w'=>e=gU 4∧∃ m,w'=w.drewN m:=by
 have HK:=hide (stn h 1 (Or.inr (by simp)))
 clear h
 go_enter Tryz.func304,Tryz.ntmps304
 go_wp2_with fail
 refine HK.o.mono ?_
 rintro e w1 ⟨rfl,m,rfl⟩
 exact⟨rfl,rfl,m,rfl⟩
theorem im(c:Int)(w:World):Calls Tryz.prog 319 #[.int .u8 c] w fun e w'=>e=.returned (.bool (c==40||c==41||c==60||c==62||c==91||c==93||c==123||c==125||c==47||c==37))∧w'=w:=by
 go_enter Tryz.func319,Tryz.ntmps319
 go_wp2
 all_goals (go_ret;exact⟨by simp[*],rfl⟩)
theorem mao(c:Nat)(w:World):Calls Tryz.prog 319 #[.int .u8 c] w fun e w'=>e=.returned (.bool (markB c))∧w'=w:=by
 have e:((c:Int)==40||(c:Int)==41||(c:Int)==60||(c:Int)==62||(c:Int)==91||(c:Int)==93||(c:Int)==123||(c:Int)==125||(c:Int)==47||(c:Int)==37)=markB c:=by
  rw[Bool.eq_iff_iff]
  simp[markB];omega
 have:=im c w
 rw[e]at this
 exact this
theorem po_(c:Nat)(w:World):Calls Tryz.prog 291 #[.int .u8 c] w fun e w'=>e=.returned (.bool (pB c))∧w'=w:=by
 have HW:=hide (who c)
 have HM:=hide (mao c)
 unfold pB
 cases hw:whB c<;>cases hm:markB c<;>rw[hw]at HW<;>rw[hm]at HM
 all_goals (
  go_enter Tryz.func291,Tryz.ntmps291
  go_wp2_with (first | (go_at_call 250;refine(HW.o _).mono ?_;rintro e w' ⟨rfl,rfl⟩) | (go_at_call 319;refine(HM.o _).mono ?_;rintro e w' ⟨rfl,rfl⟩))
  go_ret
  exact⟨rfl,rfl⟩)
def pH:List Nat→Bool
 | []=>false
 |b::_=>pB b
theorem sAo(h:Sc B bs ao cap data x2 x3 x4 w r) :
  Calls Tryz.prog 306 #[.pointer (some ⟨bs,0,none⟩)] w fun e w'=>e=.returned (.bool (pH r))∧∃ m,w'=w.drewN m:=by
 have H:=hide h
 cases r with
 |nil =>
  have t1:decide ((0:Int)<(([]:List Nat).length:Int))=false:=by simp
  clear h
  go_enter Tryz.func306,Tryz.ntmps306
  go_wp2_with fail
  go_quiet ((go_at_call 190;exact Calls.quiet_of (slo (H.o.drewN _))))
  go_wp2
  go_ret
  exact⟨rfl,nq,rfl⟩
 |cons b t =>
  obtain⟨hlt,_,hb,bd,o,rfl,hbd,hc⟩:=h.cons
  have c0:=h.c0
  have c1:=h.c1
  have hlen:=h.len
  have hlc:=h.lc
  have t1:decide ((0:Int)<((b::t).length:Int))=true:=by simp only[List.length_cons,decide_eq_true_eq];omega
  clear h
  generalize data.length-(b::t).length=p at *
  have hltI:(p:Int)<(data.length:Int):=by omega
  go_enter Tryz.func306,Tryz.ntmps306
  go_wp2_with fail
  go_quiet (first | (go_at_call 190;exact Calls.quiet_of (slo (H.o.drewN _))) | (go_at_call 291;exact Calls.quiet_of_same (po_ b _)))
  go_wp2
  go_ret
  exact⟨rfl,nq,rfl⟩
structure PlainTo(r:List Nat)(k:Nat)(q:List Nat):Prop where
 dr:r.drop k=q
 le:k≤r.length
 tw:r.takeWhile pB=r.take k++q.takeWhile pB
 dw:r.dropWhile pB=q.dropWhile pB
theorem PlainTo.start(r:List Nat):PlainTo r 0 r:=⟨rfl,Nat.zero_le _,rfl,rfl⟩
theorem PlainTo.on{k b:Nat}{t:List Nat}(h:PlainTo r k (b::t))(hb:pB b=true):PlainTo r (k+1) t:=by
 obtain⟨h1,h2,h3,h4⟩:=h
 have hl:(r.drop k).length=t.length+1:=by rw[h1];rfl
 rw[List.length_drop]at hl
 refine⟨by rw[←List.drop_drop,h1];rfl,by omega,?_,by rw[h4,List.dropWhile_cons,hb];rfl⟩
 rw[h3,List.takeWhile_cons,hb]
 simp only[if_true]
 rw[List.take_add_one,show r[k]?=some b by rw[←List.head?_drop,h1];rfl]
 simp
theorem PlainTo.stop{k:Nat}(h:PlainTo r k q)(hq:pH q=false):r.takeWhile pB=r.take k∧r.dropWhile pB=q:=by
 obtain⟨h1,h2,h3,h4⟩:=h
 cases q with
 |nil=>rw[h3,h4];simp
 |cons b t =>
  have hq':pB b=false:=hq
  rw[h3,h4,List.takeWhile_cons,List.dropWhile_cons,hq'];simp
theorem Dat.str{bd o p n:Nat}(h:Dat w B (some ⟨bd,o,none⟩) data)(c:Nat)(hn:p+n≤data.length)(m:Nat) :
  (convert 23 9 (.slice (some ⟨bd,o+p,none⟩) n c)).run Tryz.prog (w.drewN m)=.ok (.string (strN ((data.drop p).take n))) (w.drewN m):=by
 have hl:((data.drop p).take n).length=n:=by rw[List.length_take,List.length_drop];omega
 have:=stc (w:=w.drewN m) ⟨bd,o+p,none⟩ c ((data.drop p).take n) (fun j hj=>by
  rw[hl]at hj
  obtain⟨b',o',e1,e2,e3⟩:=h (p+j) (by omega)
  cases e1
  have e4:nth ((data.drop p).take n) j=nth data (p+j):=by
   unfold nth
   rw[List.getD_eq_getElem?_getD,List.getD_eq_getElem?_getD,List.getElem?_take_of_lt hj,List.getElem?_drop]
  rw[e4,ap,Nat.add_assoc]
  exact e3)
 rw[hl]at this
 exact this
theorem spo(h:Sc B bs ao cap data x2 x3 x4 w r) :
  Calls Tryz.prog 258 #[.pointer (some ⟨bs,0,none⟩)] w fun e w'=>e=.returned (.string (strN (r.takeWhile pB)))∧Sc B bs ao cap data x2 x3 x4 w' (r.dropWhile pB)∧Only bs w w':=by
 have H:=hide h
 have c1:=h.c1
 have hle:=h.le
 have hln:=h.len
 obtain⟨hlc,hcm⟩:=h.lc
 obtain⟨bd,o,rfl,hbd⟩:=h.ad
 clear h
 obtain⟨p,hp⟩:∃ p,data.length-r.length=p:=⟨_,rfl⟩
 rw[hp]at c1
 have HP:=hide hp
 clear hp
 go_enter Tryz.func258,Tryz.ntmps258
 go_wp2
 clear c1
 go_loopw [8] (fun _ wr=>∃(k:Nat) (q:List Nat),Hid (PlainTo r k q)∧Sc B bs (some ⟨bd,o,none⟩) cap data x2 x3 x4 wr q∧Hid (Only bs w wr)) (fun _ wr=>data.length-posS bs wr)
 case atStart=>exact⟨0,r,PlainTo.start r,H.o,Only.refl _ _⟩
 case round =>
  obtain⟨k,q,HT,hq,HO⟩:=hrel
  have HQ:=hide hq
  clear hq
  have hqlen:q.length=r.length-k∧k≤r.length:=⟨by rw[←HT.o.dr,List.length_drop],HT.o.le⟩
  have HPQ:=hide HQ.o.posS
  have hkk:data.length-q.length=p+k:=by have:=HP.o;omega
  have HA:=hide (sAo HQ.o)
  have c0:=HQ.o.c0
  have c1:=HQ.o.c1
  have f1:=HQ.o.fz 1
  rw[hkk]at c1
  cases hph:pH q
  ·rw[hph]at HA
   have hst:=HT.o.stop hph
   have HST:=hide hst
   have HD:=hide HQ.o.dat
   have hpk:p+k≤data.length:=by have:=HP.o;omega
   have hsuf:data.drop p=r:=by rw[←HP.o];exact H.o.suf
   clear hst hph HPQ HP hqlen hkk
   rcases Nat.eq_zero_or_pos k with h0 | h0
   ·subst h0
    have hce:=ce
    rw[Nat.add_zero]at c1
    by_cases hcp:cap=p
    ·subst hcp
     go_wp2_with fail
     refine HA.o.mono ?_
     rintro e w1 ⟨rfl,m,rfl⟩
     go_wp2_with fail
     go_quiet (fail)
     go_wp2
     go_ret
     exact⟨by rw[HST.o.1];rfl,by rw[HST.o.2];exact(HQ.o.drewN _).drewN _,(HO.o.drewN _).drewN _⟩
    ·go_wp2_with fail
     refine HA.o.mono ?_
     rintro e w1 ⟨rfl,m,rfl⟩
     go_wp2_with fail
     go_quiet (fail)
     go_wp2
     go_ret
     exact⟨by rw[HST.o.1];rfl,by rw[HST.o.2];exact(HQ.o.drewN _).drewN _,(HO.o.drewN _).drewN _⟩
   ·have hcp:¬ cap=p:=by omega
    have hA:(0:Int)≤(p:Int)+(k:Int):=by omega
    have hA2:(p:Int)+(k:Int)≤(cap:Int):=by omega
    have hA3:((p:Int)+(k:Int)).toNat=p+k:=by omega
    have hcv:=fun m=>HD.o.str (p:=p) (n:=k) (cap-p) hpk m
    rw[hsuf]at hcv
    clear hsuf
    obtain⟨S,hS⟩:∃ S,strN (r.take k)=S:=⟨_,rfl⟩
    rw[hS]at hcv
    have HS:=hide hS
    clear hS
    go_wp2_with fail
    refine HA.o.mono ?_
    rintro e w1 ⟨rfl,m,rfl⟩
    go_wp2_with fail
    go_quiet (fail)
    go_wp2
    go_ret
    exact⟨by rw[HST.o.1,HS.o];rfl,by rw[HST.o.2];exact(HQ.o.drewN _).drewN _,(HO.o.drewN _).drewN _⟩
  ·rw[hph]at HA
   cases q with
   |nil=>cases hph
   |cons b t =>
    have HT2:=hide (HT.o.on hph)
    have HQ2:Hid (∀ m,Sc B bs (some ⟨bd,o,none⟩) cap data x2 x3 x4 ((wr.drewN m).setCell ⟨bs,1,none⟩ (.int .i64 (p+k+1:Nat))) t):=fun m=>(HQ.o.drewN m).set t 1 rfl (by simp) _ (by rw[hkk])
    have HM:Hid (data.length-(data.length-t.length)<data.length-(data.length-(b::t).length)):=by
     have:=HQ.o.le
     unfold Hid
     simp only[List.length_cons]at this ⊢;omega
    have hpk:p+k<data.length:=by have:=HP.o;simp only[List.length_cons]at hqlen;omega
    clear hph hqlen hkk HT
    go_wp2_with fail
    refine HA.o.mono ?_
    rintro e w1 ⟨rfl,m,rfl⟩
    go_wp2
    go_roundw
    case rel=>exact⟨k+1,t,HT2,HQ2.o m,(HO.o.drewN m).setCell _ _⟩
    case measure =>
     have e1:=(HQ2.o m).posS
     rw[HPQ.o]
     exact Nat.lt_of_le_of_lt (Nat.le_of_eq (by rw[←e1];rfl)) HM.o
theorem swo(h:Sc B bs ao cap data x2 x3 x4 w r) :
  Calls Tryz.prog 251 #[.pointer (some ⟨bs,0,none⟩)] w fun e w'=>e=.returned (.string (strN (Fo.wordOf r)))∧Sc B bs ao cap data x2 x3 x4 w' (Fo.wordRest r)∧Only bs w w':=by
 have HS:=hide (sso h)
 clear h
 go_enter Tryz.func251,Tryz.ntmps251
 go_wp2_with fail
 refine HS.o.mono ?_
 rintro e w1 ⟨rfl,h1,k1⟩
 have HP:=hide (spo h1)
 have K1:=hide k1
 clear h1 k1 HS
 go_wp2_with fail
 refine HP.o.mono ?_
 rintro e w2 ⟨rfl,h2,k2⟩
 go_wp2
 go_ret
 exact⟨rfl,h2,K1.o.trans k2⟩
theorem smo(h:Sc B bs ao cap data x2 x3 x4 w r)(s:ByteArray)(h0:0<s.size)(hs:s.size≤1000000) :
  Calls Tryz.prog 196 #[.pointer (some ⟨bs,0,none⟩),.string s] w (TaT B bs ao cap data x2 x3 x4 w (Fo.skip r) (Fo.takes (bl s) (Fo.skip r))):=by
 have HS:=hide (sso h)
 clear h
 go_enter Tryz.func196,Tryz.ntmps196
 go_wp2_with fail
 refine HS.o.mono ?_
 rintro e w1 ⟨rfl,h1,k1⟩
 have HP:=hide (sto h1 s h0 hs)
 have K1:=hide k1
 clear h1 k1 HS
 go_wp2_with fail
 refine HP.o.mono ?_
 rintro e w2 ⟨rfl,h2,k2⟩
 go_wp2
 go_ret
 exact⟨rfl,h2,K1.o.trans k2⟩
theorem sNei{l:List Nat}(hl:∀ x∈l,x<256)(s:ByteArray):decide (strN l=s)=decide (l=bl s):=by
 rw[decide_eq_decide]
 constructor
 ·intro e
  exact sNi hl (blb s) (e.trans (sNb s).symm)
 ·intro e;rw[e,sNb]
theorem skCs:∀(b:Bool) (r:List Nat),Fo.skipC b r <:+ r
 |b,[]=>by cases b<;>exact List.suffix_refl _
 |false,x::r=>by
  simp only[Fo.skipC]
  split
  ·exact(skCs false r).trans (List.suffix_cons x r)
  ·split
   ·exact(skCs true r).trans (List.suffix_cons x r)
   ·exact List.suffix_refl _
 |true,x::r=>by
  simp only[Fo.skipC]
  split
  ·exact(skCs false r).trans (List.suffix_cons x r)
  ·exact(skCs true r).trans (List.suffix_cons x r)
theorem sks(r:List Nat):Fo.skip r <:+ r:=skCs false r
theorem woRs(r:List Nat):Fo.wordRest r <:+ r:=(List.dropWhile_suffix pB).trans (sks r)
theorem wOm{r:List Nat}{x:Nat}(h:x∈Fo.wordOf r):x∈r:=by
 unfold Fo.wordOf at h
 exact(sks r).subset ((List.takeWhile_prefix pB).subset h)
theorem sWo(h:Sc B bs ao cap data x2 x3 x4 w r)(s:ByteArray) :
  Calls Tryz.prog 191 #[.pointer (some ⟨bs,0,none⟩),.string s] w (TaT B bs ao cap data x2 x3 x4 w r (Fo.takesWord (bl s) r)):=by
 have c1:=h.c1
 have HW:=hide (swo h)
 have HEQ:Hid (decide (strN (Fo.wordOf r)=s)=decide (Fo.wordOf r=bl s)):=sNei (fun x hx=>h.bytes x (wOm hx)) s
 have hle:=h.le
 have hln:=h.len
 have hsuf:=hide h.suf
 have hp:data.length-r.length≤data.length:=by omega
 clear h
 unfold Fo.takesWord
 by_cases hd:Fo.wordOf r=bl s
 ·have hc:(((strN (Fo.wordOf r)).toList==s.toList))=true:=by rw[strEq,HEQ.o,decide_eq_true_eq];exact hd
  rw[if_pos hd]
  generalize strN (Fo.wordOf r)=S at *
  generalize data.length-r.length=p at *
  clear hd
  go_enter Tryz.func191,Tryz.ntmps191
  go_wp2_with fail
  refine HW.o.mono ?_
  rintro e w1 ⟨rfl,h1,k1⟩
  go_wp2
  go_ret
  exact⟨rfl,h1,k1⟩
 ·have hc:(((strN (Fo.wordOf r)).toList==s.toList))=false:=by rw[strEq,HEQ.o,decide_eq_false_iff_not];exact hd
  rw[if_neg hd]
  generalize strN (Fo.wordOf r)=S at *
  obtain⟨p,hpe⟩:∃ p,data.length-r.length=p:=⟨_,rfl⟩
  rw[hpe]at c1 hp
  have HPE:=hide hpe
  clear hd hpe
  go_enter Tryz.func191,Tryz.ntmps191
  go_wp2_with fail
  refine HW.o.mono ?_
  rintro e w1 ⟨rfl,h1,k1⟩
  have f1:=h1.fz 1
  have d1:=h1.c1
  have H1:=hide h1
  have K1:=hide k1
  clear h1 k1 c1
  go_wp2
  go_ret
  refine⟨rfl,?_,K1.o.setCell _ _⟩
  have:=H1.o.at_ p hp
  rw[←HPE.o,hsuf.o,HPE.o]at this
  exact this
theorem sEo(h:Sc B bs ao cap data x2 x3 x4 w r) :
  Calls Tryz.prog 199 #[.pointer (some ⟨bs,0,none⟩)] w (TaT B bs ao cap data x2 x3 x4 w r (Fo.lineEnd r)):=by
 have H1:=hide (sto h { data:=#[13,10] } (by decide) (by decide))
 rw[show bl { data:=#[13,10] }=[13,10]from rfl]at H1
 clear h
 cases e1:Fo.takes [13,10] r with
 |some q =>
  rw[e1]at H1
  go_enter Tryz.func199,Tryz.ntmps199
  go_wp2_with fail
  refine H1.o.mono ?_
  rintro e w1 ⟨rfl,h1,k1⟩
  go_wp2
  go_ret
  have hL:Fo.lineEnd r=some q:=by unfold Fo.lineEnd;rw[e1];rfl
  exact⟨by rw[hL];rfl,by rw[hL];exact h1,k1⟩
 |none =>
  rw[e1]at H1
  go_enter Tryz.func199,Tryz.ntmps199
  go_wp2_with fail
  refine H1.o.mono ?_
  rintro e w1 ⟨rfl,h1,k1⟩
  have H2:=hide (sto (show Sc B bs ao cap data x2 x3 x4 w1 r from h1) { data:=#[10] } (by decide) (by decide))
  rw[bo,show(UInt8.toNat 10)=10 from rfl]at H2
  have K1:=hide k1
  clear h1 k1 H1
  cases e2:Fo.takes [10] r with
  |some q =>
   rw[e2]at H2
   go_wp2_with fail
   refine H2.o.mono ?_
   rintro e w2 ⟨rfl,h2,k2⟩
   go_wp2
   go_ret
   have hL:Fo.lineEnd r=some q:=by unfold Fo.lineEnd;rw[e1,e2];rfl
   exact⟨by rw[hL];rfl,by rw[hL];exact h2,K1.o.trans k2⟩
  |none =>
   rw[e2]at H2
   go_wp2_with fail
   refine H2.o.mono ?_
   rintro e w2 ⟨rfl,h2,k2⟩
   have H3:=hide (sto (show Sc B bs ao cap data x2 x3 x4 w2 r from h2) { data:=#[13] } (by decide) (by decide))
   rw[bo,show(UInt8.toNat 13)=13 from rfl]at H3
   have K2:=hide (K1.o.trans k2)
   clear h2 k2 H2 K1
   have hL:Fo.lineEnd r=Fo.takes [13] r:=by unfold Fo.lineEnd;rw[e1,e2];rfl
   rw[←hL]at H3
   generalize Fo.lineEnd r=L at *
   clear e1 e2 hL
   go_wp2_with fail
   refine H3.o.mono ?_
   rintro e w3 ⟨rfl,h3,k3⟩
   have H4:=hide h3
   have K4:=hide (K2.o.trans k3)
   clear h3 k3
   cases L with
   |some q =>
    go_wp2
    go_ret
    exact⟨rfl,H4.o,K4.o⟩
   |none =>
    go_wp2
    go_ret
    exact⟨rfl,H4.o,K4.o⟩
end
end Go.Proofs.YtgkljcmjnphpeaaGreatDoor
