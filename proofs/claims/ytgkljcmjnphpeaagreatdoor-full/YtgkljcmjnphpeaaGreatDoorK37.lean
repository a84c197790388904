import Derived.Test.YtgkljcmjnphpeaaGreatDoorK36
set_option linter.unusedVariables false
set_option linter.unusedSimpArgs false
set_option maxHeartbeats 4000000
set_option maxRecDepth 100000
namespace Go.Proofs.YtgkljcmjnphpeaaGreatDoor
open Go.RowKit
section
variable{w w':World}{B bf:Nat}{ov pv:Value}{out pl:List Nat}
theorem Env.low{E:Nat}(h:Env E w)(b:Below E w w'):Env E w':=by
 refine⟨⟨?_,?_,?_,h.err.ls,h.err.lr,h.err.lm⟩,?_,h.lp⟩
 ·obtain⟨ev,h1,h2⟩:=h.err.syn
  exact⟨ev,by rw[b.cell (p:=⟨_,0,none⟩) h.err.ls];exact h1,h2⟩
 ·obtain⟨ev,h1,h2⟩:=h.err.rng
  exact⟨ev,by rw[b.cell (p:=⟨_,0,none⟩) h.err.lr];exact h1,h2⟩
 ·obtain⟨m,h1⟩:=h.err.mx
  exact⟨m,by rw[b.cell (p:=⟨_,0,none⟩) h.err.lm];exact h1⟩
 ·have:=h.pow
  unfold Lib.TabIs World.var? at this ⊢
  rw[Tryz.gPow]at this ⊢
  simp only[Option.bind_some]at this ⊢
  rw[b.block _ h.lp]
  exact this
theorem Env.outk{E:Nat}(h:Env E w)(hE:E≤B)(ho:OutW B bf w ov pv out pl)(k:OutK B bf w w'):Env E w':=by
 have b:Below B w w':=Kept.below k.toKept ho.bw (fun g hg=>by simp at hg;subst hg;exact ho.hb)
 exact h.low (b.mono hE)
namespace Fo
def wrealA(n p:Nat):List Nat:=(padTo (p+1) n).take ((padTo (p+1) n).length-p)++(46::(padTo (p+1) n).drop ((padTo (p+1) n).length-p))++(if p=0 then[48]else[])
def wreal(n:Int)(p:Nat):List Nat:=if n<0 then 45::wrealA n.natAbs p else wrealA n.toNat p
theorem padTo_len(k n:Nat)(h:n<10^10)(hk:k≤10):k≤(padTo k n).length∧(padTo k n).length≤10:=by
 unfold padTo
 have:=del 9 n h
 rw[List.length_append,List.length_replicate]
 omega
theorem wAl(n p:Nat)(h:n<10^10)(hp:p≤5):(wrealA n p).length≤12:=by
 unfold wrealA
 have h1:=padTo_len (p+1) n h (by omega)
 simp only[List.length_append,List.length_cons,List.length_take,List.length_drop]
 split<;>simp<;>omega
end Fo
theorem wro{E:Nat}(he:Env E w)(hE:E≤w.heap.size)(hEB:E≤B)(h:OutW B bf w ov pv out pl)(n:Int)(p:Nat)(hn1 : -999999999≤n)(hn2:n≤999999999)(hp:p≤5)(hlen:out.length+40≤500000000) :
  Calls Tryz.prog 181 #[.pointer (some ⟨bf,0,none⟩),.int .i64 n,.int .i64 (p:Int)] w fun e w'=>e=.returned (.tuple #[])∧∃ ov',OutW B bf w' ov' pv (out++Fo.wreal n p) pl∧OutK B bf w w':=by
 obtain⟨m,hm⟩:∃ m,n.natAbs=m:=⟨_,rfl⟩
 have hm9:m≤999999999:=by omega
 have HPD:Hid (∀ W,OutK B bf w W→Env E W→E≤W.heap.size→Calls Tryz.prog 133 #[.int .i64 (m:Int),.int .i64 ((p+1:Nat):Int)] W fun e w'=>∃ S,e=.returned (.string S)∧bl S=Fo.padTo (p+1) m∧Below W.heap.size W w'):=fun W _ h1 h2=>pTo h1 h2 m (p+1) (by omega) (by omega)
 have H:=hide h
 have HEV:=hide (And.intro he hE)
 have hpw:IntKind.i64.wrap ((p:Int)+1)=((p+1:Nat):Int):=by rw[IntKind.wrap_i64];omega
 obtain⟨hl1,hl2⟩:=Fo.padTo_len (p+1) m (by omega) (by omega)
 have HWA:Hid (∀ S,bl S=Fo.padTo (p+1) m→bl (S.extract 0 (S.size-p))++(46::bl (S.extract (S.size-p) S.size))++(if p=0 then[48]else[])=Fo.wrealA m p):=fun S hS=>by
  have hsz:S.size=(Fo.padTo (p+1) m).length:=by rw[←hS,bll]
  have e1:bl (S.extract 0 (S.size-p))=(bl S).take (S.size-p):=by
   have:=bp S 0 (S.size-p) (by omega)
   rw[Nat.zero_add,List.drop_zero]at this
   exact this
  rw[e1,bt_,hS,hsz]
  rfl
 have HWR:Hid (Fo.wreal n p=(if n<0 then[45]else[])++Fo.wrealA m p):=by
  unfold Hid Fo.wreal
  by_cases h0:n<0
  ·rw[if_pos h0,if_pos h0,hm];rfl
  ·rw[if_neg h0,if_neg h0,show n.toNat=m by omega];rfl
 generalize Fo.wreal n p=WR at *
 generalize Fo.wrealA m p=WA at *
 generalize Fo.padTo (p+1) m=P at *
 clear he h
 go_enter Tryz.func181,Tryz.ntmps181
 go_upto_if 9 with fail
 go_cut [1]from 8 (fun nv wx=>∃(v:Value),nv=.int .i64 (m:Int)∧Hid (OutW B bf wx v pv (out++(if n<0 then[45]else[])) pl)∧Hid (OutK B bf w wx)∧Hid (Env E wx∧E≤wx.heap.size))
 case first =>
  by_cases h0:n<0
  ·have t0:decide (n<0)=true:=by simpa using h0
   have HP0:=hide (wput1 H.o { data:=#[45] } (by show _+1≤_;omega))
   have hng:IntKind.i64.wrap (-n)=(m:Int):=by rw[IntKind.wrap_i64];omega
   have hng2 : -n=(m:Int):=by omega
   have HH0:=hide h0
   clear h0
   rw[t0]
   go_wp2_with fail
   refine HP0.o.mono ?_
   rintro e w1 ⟨rfl,ov1,h1,k1⟩
   have H1:=hide h1
   have K1:=hide k1
   have hev:Env E w1∧E≤w1.heap.size:=⟨HEV.o.1.outk hEB H.o k1,Nat.le_trans HEV.o.2 k1.size⟩
   have HE1:=hide hev
   clear h1 k1 HP0 hev
   go_wp2
   go_meet
   case rel=>exact⟨ov1,rfl,by rw[if_pos HH0.o];exact H1.o,K1.o,HE1.o⟩
  ·have t0:decide (n<0)=false:=by simpa using h0
   have hnm:n=(m:Int):=by omega
   have HH0:=hide h0
   clear h0
   rw[t0]
   go_wp2
   go_meet
   case rel=>exact⟨ov,by rw[←hnm],by rw[if_neg (by have:=HH0.o;omega),List.append_nil];exact H.o,OutK.refl _ _ _,HEV.o⟩
 case rest =>
  obtain⟨v1,rfl,HH,HK,HE1⟩:=hcut
  have HPD1:=hide (HPD.o wc HK.o HE1.o.1 HE1.o.2)
  have hsg:(out++(if n<0 then[45]else[])).length≤out.length+1:=by rw[List.length_append];split<;>simp
  have HWR2:Hid (out++WR=(out++(if n<0 then[45]else[]))++WA):=by unfold Hid;rw[HWR.o,List.append_assoc]
  generalize out++(if n<0 then[45]else[])=o0 at *
  go_wp2_with fail
  refine HPD1.o.mono ?_
  rintro e w1 ⟨S,rfl,hS,b1⟩
  have H1:=hide (HH.o.below b1)
  have K1:Hid (OutK B bf w w1):=HK.o.trans (OutK.of_below (b:=0) b1)
  have HWS:=hide (HWA.o S hS)
  have hsz:S.size=P.length:=by rw[←hS,bll]
  obtain⟨sz,hszz⟩:∃ sz,S.size=sz:=⟨_,rfl⟩
  obtain⟨pt,hpt⟩:∃ pt,pt+p=sz:=⟨sz-p,by omega⟩
  have hptw:IntKind.i64.wrap ((sz:Int)-(p:Int))=(pt:Int):=by rw[IntKind.wrap_i64];omega
  have hpt2:(sz:Int)-(p:Int)=(pt:Int):=by omega
  have hp3:pt≤sz:=by omega
  have hp4:(pt:Int)≤(sz:Int):=by omega
  rw[hszz,show sz-p=pt by omega]at HWS
  have hszL:sz≤10:=by omega
  clear b1 HWA hS hsz
  go_wp2_with fail
  have H2:Hid (OutW B bf w1.drew v1 pv o0 pl):=H1.o.below (Below.refl _ _).drew
  have K2:Hid (OutK B bf w w1.drew):=K1.o.trans (OutK.of_below (b:=0) (Below.refl _ _).drew)
  generalize hwd:w1.drew=w2 at H2 K2
  have HWD:=hide hwd
  clear hwd
  refine wrT (fun _ _=>True) (by kernel_rfl) ?_
  rw[HWD.o]
  intro hD
  have hS:=hide (show True from trivial)
  refine ti 0 ?_ hD hS ?_
  clear hD hS;intro hD hS;(try simp only[putL])
  refine ti 1 ?_ hD hS ?_
  clear hD hS;intro hD hS;(try simp only[putL])
  refine ti 2 ?_ hD hS ?_
  clear hD hS;intro hD hS;(try simp only[putL])
  refine ti 3 ?_ hD hS ?_
  clear hD hS;intro hD hS;(try simp only[putL])
  refine ti 4 ?_ hD hS ?_
  clear hD hS;intro hD hS;(try simp only[putL])
  refine ti 5 ?_ hD hS ?_
  clear hD hS;intro hD hS;(try simp only[putL])
  refine ti 6 ?_ hD hS ?_
  clear hD hS;intro hD hS;(try simp only[putL])
  refine on 7 hD fun K' hK=>?_
  go_simp
  refine hK.o _ _ trivial (fun hD2 hS2=>?_)
  clear hD hS hK K'
  have hD:=hD2
  have hS:=hS2
  clear hD2 hS2
  (try simp only[putL])
  refine on 8 hD fun K' hK=>?_
  go_simp
  have hx1:(S.extract 0 pt).size≤10:=by rw[ByteArray.size_extract];omega
  have hx2:(S.extract pt sz).size≤10:=by rw[ByteArray.size_extract];omega
  refine(wput3 H2.o (S.extract 0 pt) { data:=#[46] } (S.extract pt sz) (by show _+(_+(1+_))≤_;omega)).mono ?_
  rintro e w3 ⟨rfl,ov3,h3,k3⟩
  have H3:=hide h3
  have K3:=hide (K2.o.trans k3)
  clear h3 k3 hx1 hx2
  refine hK.o _ _ trivial (fun hD2 hS2=>?_)
  clear hD hS hK K'
  have hD:=hD2
  have hS:=hS2
  clear hD2 hS2
  (try simp only[putL])
  refine wATd (by kernel_rfl) ?_ _
  clear hD hS
  by_cases hp0:p=0
  ·have t1:((p:Int)==0)=true:=by simp;omega
   have hln:(o0++(bl (S.extract 0 pt)++(bl { data:=#[46] }++bl (S.extract pt sz)))).length+1≤500000000:=by
    simp only[List.length_append,bll,ByteArray.size_extract]
    show _+(_+(1+_))+1≤_
    omega
   have HP5:=hide (wput1 H3.o { data:=#[48] } hln)
   have HRS:Hid (o0++(bl (S.extract 0 pt)++(bl { data:=#[46] }++bl (S.extract pt sz)))++bl { data:=#[48] }=out++WR):=by
    unfold Hid
    rw[HWR2.o,←HWS.o,if_pos hp0]
    simp[bl]
   clear hp0 hln
   go_wp2_with fail
   refine HP5.o.mono ?_
   rintro e w4 ⟨rfl,ov4,h4,k4⟩
   have H4:=hide h4
   have K4:=hide (K3.o.trans k4)
   clear h4 k4 HP5
   go_wp2
   go_end0
   exact⟨rfl,ov4,by rw[←HRS.o];exact H4.o,K4.o⟩
  ·have t1:((p:Int)==0)=false:=by simp;omega
   have HRS:Hid (o0++(bl (S.extract 0 pt)++(bl { data:=#[46] }++bl (S.extract pt sz)))=out++WR):=by
    unfold Hid
    rw[HWR2.o,←HWS.o,if_neg hp0]
    simp[bl]
   clear hp0
   go_wp2
   go_end0
   exact⟨rfl,ov3,by rw[←HRS.o];exact H3.o,K3.o⟩
namespace Fo
def wjoin:List (List Nat)→List Nat
 | []=>[]
 |x::l=>x++l.flatMap fun y=>32::y
theorem wjoin_snoc(l:List (List Nat))(y:List Nat):wjoin (l++[y])=wjoin l++((if l.length=0 then[]else[32])++y):=by
 cases l with
 |nil=>simp[wjoin]
 |cons x l=>simp[wjoin]
def wv:{k:Nat}→VT k→List Nat
 |0,_=>[]
 |k+1,V=>match Node.kind V with
  |0=>[110,117,108,108]
  |1=>if Node.n V=1 then[116,114,117,101]else[102,97,108,115,101]
  |2=>wint (Node.n V)
  |3=>wreal (Node.n V) (Node.places V)
  |4=>wname (Node.text V)
  |5=>wquoted (Node.text V)
  |6=>91::(wjoin ((Node.items V).map fun y=>wv (k:=k) y)++[93])
  |7=>60::60::(wjoin (((Node.keys V).zip (Node.items V)).map fun z=>wname z.1++(32::wv (k:=k) z.2))++[62,62])
  |9=>wint (Node.n V)++[32,48,32,82]
  |_=>[]
def wlen:{k:Nat}→VT k→Nat
 |0,_=>0
 |k+1,V=>100+4*(Node.text V).length+((Node.items V).map fun y=>10+wlen (k:=k) y).sum+((Node.keys V).map fun s=>10+3*s.length).sum
end Fo
def WOk:{k:Nat}→VT k→Prop
 |0,_=>True
 |k+1,V=>(Node.kind V≤7∨Node.kind V=9)∧(-9223372036854775808≤Node.n V∧Node.n V≤9223372036854775807)∧(Node.kind V=3 → -999999999≤Node.n V∧Node.n V≤999999999∧Node.places V≤5)∧(Node.kind V=7→(Node.keys V).length=(Node.items V).length)∧(∀ x∈Node.text V,x<256)∧(∀ s∈Node.keys V,∀ x∈s,x<256)∧∀ y∈Node.items V,WOk (k:=k) y
theorem VIn.outk{P:Nat→Prop}:∀(k:Nat) {v:Value} {V:VT k},VIn P k w v V→OutW B bf w ov pv out pl→OutK B bf w w'→VIn P k w' v V
 |0,_,_,h,_,_=>h
 |k+1,v,V,h,ho,hk=>by
  obtain⟨iv,kv,fv,vs,h1,h2,h3,h4,h5,h6⟩:=h
  have key:∀{e size n:Nat} {u:Value} {xs:List Value},e ≠ 5→e ≠ 122→RowIn P w e size u n xs→RowIn P w' e size u n xs:=fun{e size n u xs} he1 he2 hr=>by
   have hne:∀ g,u.ownBlock=some g→g∉[bf]:=fun g hg hm=>by
    simp at hm
    subst hm
    obtain⟨_,c,f,hc⟩:=owr hr.1 g hg
    rw[ho.blk]at hc
    simp at hc
    exact he2 hc.2.1.symm
   exact⟨owk hr.1 hk.toKept he1 hne,fun g hg=>⟨(hr.2 g hg).1,Nat.lt_of_lt_of_le (hr.2 g hg).2 hk.size⟩⟩
  exact⟨iv,kv,fv,vs,h1,h2,key (by decide) (by decide) h3,fun i x y hx hy=>VIn.outk k (h4 i x y hx hy) ho hk,key (by decide) (by decide) h5,key (by decide) (by decide) h6⟩
theorem wo0(h:OutW B bf w ov pv out pl)(m:Nat)(hm:m≤9223372036854775807)(hlen:out.length+1≤500000000) :
  Calls Tryz.prog 186 #[.pointer (some ⟨bf,0,none⟩),.int .i64 (m:Int)] w fun e w'=>e=.returned (.tuple #[])∧∃ ov',OutW B bf w' ov' pv (out++(if m=0 then[]else[32])) pl∧OutK B bf w w':=by
 by_cases h0:m=0
 ·rw[if_pos h0,List.append_nil]
  have t0:decide ((m:Int)>0)=false:=by simp;omega
  have t1:decide (0<m)=false:=by simp;omega
  have t2:¬ 0<m:=by omega
  have H:=hide h
  clear h h0
  go_enter Tryz.func186,Tryz.ntmps186
  go_wp2
  go_end0
  exact⟨rfl,ov,H.o,OutK.refl _ _ _⟩
 ·rw[if_neg h0]
  have t0:decide ((m:Int)>0)=true:=by simp;omega
  have t1:decide (0<m)=true:=by simp;omega
  have t2:0<m:=by omega
  have HP:=hide (wput1 h { data:=#[32] } (by show _+1≤_;omega))
  clear h h0
  go_enter Tryz.func186,Tryz.ntmps186
  go_wp2_with fail
  refine HP.o.mono ?_
  rintro e w1 ⟨rfl,ov1,h1,k1⟩
  have H1:=hide h1
  have K1:=hide k1
  clear h1 k1 HP
  go_wp2
  go_end0
  exact⟨rfl,ov1,H1.o,K1.o⟩
theorem fBo(b:Bool)(w:World):Calls Tryz.prog 180 #[.bool b] w fun e w'=>e=.returned (.string (if b=true then{ data:=#[116,114,117,101] } else{ data:=#[102,97,108,115,101] }))∧w'=w:=by
 cases b
 ·go_enter Tryz.func180,Tryz.ntmps180
  go_wp2
  go_ret
  exact⟨rfl,rfl⟩
 ·go_enter Tryz.func180,Tryz.ntmps180
  go_wp2
  go_ret
  exact⟨rfl,rfl⟩
end
namespace Fo
theorem wjoin_len:∀ l:List (List Nat),(wjoin l).length≤(l.map fun x=>x.length+1).sum
 | []=>Nat.le_refl _
 |x::l=>by
  have:∀ l:List (List Nat),(l.flatMap fun y=>32::y).length=(l.map fun x=>x.length+1).sum:=fun l=>by
   induction l with
   |nil=>rfl
   |cons a l ih=>rw[List.flatMap_cons,List.length_append,ih,List.map_cons,List.sum_cons];simp
  rw[wjoin,List.length_append,this l,List.map_cons,List.sum_cons]
  omega
theorem sum_le{β:Type}{f g:β→Nat}:∀ l:List β,(∀ x∈l,f x≤g x)→(l.map f).sum≤(l.map g).sum
 | [],_=>Nat.le_refl _
 |x::l,h=>by
  have h1:=h x (List.mem_cons_self ..)
  have h2:=sum_le l (fun y hy=>h y (List.mem_cons_of_mem _ hy))
  rw[List.map_cons,List.map_cons,List.sum_cons,List.sum_cons]
  omega
theorem sum_zip{β γ:Type}{f:β→Nat}{g:γ→Nat}:∀(l:List β) (m:List γ),((l.zip m).map fun z=>f z.1+g z.2).sum≤(l.map f).sum+(m.map g).sum
 | [],m=>by simp
 |x::l,[]=>by simp
 |x::l,y::m=>by
  have:=sum_zip (f:=f) (g:=g) l m
  simp only[List.zip_cons_cons,List.map_cons,List.sum_cons]
  omega
theorem wint_len{n:Int}(h1 : -9223372036854775808≤n)(h2:n≤9223372036854775807):(wint n).length≤20:=by
 unfold wint
 split
 ·have:=del 18 n.natAbs (by omega)
  simp only[List.length_cons];omega
 ·have:=del 18 n.toNat (by omega)
  omega
theorem wname_len(l:List Nat):(wname l).length≤3*l.length+1:=by
 unfold wname
 induction l with
 |nil=>simp
 |cons a l ih =>
  have:=wnameB_len a
  simp only[List.flatMap_cons,List.length_cons,List.length_append]at ih ⊢
  omega
theorem wl(l:List Nat):(wquoted l).length≤4*l.length+2:=by
 unfold wquoted wquo
 have:∀ l:List Nat,(l.flatMap wquoB).length≤4*l.length:=fun l=>by
  induction l with
  |nil=>simp
  |cons a l ih =>
   have:=wquoB_len a
   simp only[List.flatMap_cons,List.length_cons,List.length_append]at ih ⊢
   omega
 have:=this l
 simp only[List.length_append,List.length_cons,List.length_nil]
 omega
theorem wrl{n:Int}{p:Nat}(h1 : -999999999≤n)(h2:n≤999999999)(hp:p≤5):(wreal n p).length≤13:=by
 unfold wreal
 split
 ·have:=wAl n.natAbs p (by omega) hp
  simp only[List.length_cons];omega
 ·have:=wAl n.toNat p (by omega) hp
  omega
theorem wv_len:∀{k:Nat} {V:VT k},WOk V→(wv V).length≤wlen V
 |0,V,_=>Nat.le_refl _
 |k+1,V,h=>by
  obtain⟨h1,h2,h3,h4,h5,h6,h7⟩:=h
  have hi:((Node.items V).map fun y=>(wv (k:=k) y).length+1).sum≤((Node.items V).map fun y=>10+wlen (k:=k) y).sum:=sum_le _ fun y hy=>by
   have:=wv_len (h7 y hy)
   omega
  unfold wv wlen
  split
  ·simp;omega
  ·split<;>simp<;>omega
  ·have:=wint_len h2.1 h2.2
   omega
  ·next hk =>
   obtain⟨a,b,c⟩:=h3 hk
   have:=wrl a b c
   omega
  ·have:=wname_len (Node.text V)
   omega
  ·have:=wl (Node.text V)
   omega
  ·have:=wjoin_len ((Node.items V).map fun y=>wv (k:=k) y)
   rw[List.map_map]at this
   have e:((fun x:List Nat=>x.length+1) ∘ fun y=>wv (k:=k) y)=fun y=>(wv (k:=k) y).length+1:=rfl
   rw[e]at this
   simp only[List.length_cons,List.length_append,List.length_nil]
   omega
  ·have:=wjoin_len (((Node.keys V).zip (Node.items V)).map fun z=>wname z.1++(32::wv (k:=k) z.2))
   rw[List.map_map]at this
   have h8:(((Node.keys V).zip (Node.items V)).map ((fun x:List Nat=>x.length+1) ∘ fun z=>wname z.1++(32::wv (k:=k) z.2))).sum≤(((Node.keys V).zip (Node.items V)).map fun z=>(10+3*z.1.length)+((wv (k:=k) z.2).length+1)).sum:=sum_le _ fun z hz=>by
    have:=wname_len z.1
    simp only[Function.comp,List.length_append,List.length_cons]
    omega
   have h9:=sum_zip (f:=fun s:List Nat=>10+3*s.length) (g:=fun y=>(wv (k:=k) y).length+1) (Node.keys V) (Node.items V)
   simp only[List.length_cons,List.length_append,List.length_nil]
   omega
  ·have:=wint_len h2.1 h2.2
   simp only[List.length_append,List.length_cons,List.length_nil]
   omega
  ·simp
end Fo
section
variable{w w':World}{B bf:Nat}{ov pv:Value}{out pl:List Nat}
def WrOut(B bf:Nat)(w:World)(pv:Value)(out pl more:List Nat)(e:Ending)(w':World):Prop:=e=.returned (.tuple #[])∧∃ ov',OutW B bf w' ov' pv (out++more) pl∧OutK B bf w w'
def WO(k:Nat):Prop:=∀(B bf E:Nat) (w:World) (ov pv:Value) (out pl:List Nat) (P:Nat→Prop) (v:Value) (V:VT k),Env E w→E≤B→OutW B bf w ov pv out pl→VIn P k w v V→WOk V→out.length+Fo.wlen V≤500000000 →
 Calls Tryz.prog 132 #[.pointer (some ⟨bf,0,none⟩),v] w (WrOut B bf w pv out pl (Fo.wv V))
theorem Vals.outk{P:Nat→Prop}{k b:Nat}{Ys:List (VT k)}{v:Value}(h:Vals P k b Ys w v)(ho:OutW B bf w ov pv out pl)(hk:OutK B bf w w'):Vals P k b Ys w' v:=by
 obtain⟨xs,h1,h2,h3⟩:=h
 refine⟨xs,owk h1 hk.toKept (by decide) (fun g hg hm=>?_),h2,fun i x y hx hy=>VIn.outk k (h3 i x y hx hy) ho hk⟩
 simp at hm
 subst hm
 obtain⟨_,c,f,hc⟩:=owr h1 g hg
 rw[ho.blk]at hc
 simp at hc
theorem Fo.wjoin_take{β:Type}(f:β→List Nat)(l:List β)(m:Nat)(y:β)(h:l[m]?=some y):Fo.wjoin ((l.take (m+1)).map f)=Fo.wjoin ((l.take m).map f)++((if m=0 then[]else[32])++f y):=by
 rw[List.take_add_one,h,List.map_append]
 show Fo.wjoin (_++[f y])=_
 rw[Fo.wjoin_snoc,List.length_map,List.length_take]
 have hm:m<l.length:=(List.getElem?_eq_some_iff.1 h).1
 rw[Nat.min_eq_left (by omega)]
theorem Fo.sum_take{β:Type}(f:β→Nat):∀(l:List β) (m:Nat) (y:β),l[m]?=some y→((l.take m).map f).sum+f y≤(l.map f).sum
 | [],m,y,h=>by simp at h
 |x::l,0,y,h=>by cases h;simp
 |x::l,m+1,y,h=>by
  have:=Fo.sum_take f l m y (by simpa using h)
  simp only[List.take_succ_cons,List.map_cons,List.sum_cons]
  omega
theorem wo2{k E:Nat}(ih:WO k){P:Nat→Prop}{v:Value}{V:Node (VT k)}(he:Env E w)(hEB:E≤B)(h:OutW B bf w ov pv out pl)(hv:VIn P (k+1) w v V)(hok:WOk (k:=k+1) V)(hlen:out.length+Fo.wlen (k:=k+1) V≤500000000) :
  Calls Tryz.prog 184 #[.pointer (some ⟨bf,0,none⟩),v] w (WrOut B bf w pv out pl (91::(Fo.wjoin (V.items.map fun y=>Fo.wv y)++[93]))):=by
 obtain⟨ia,ic,ka,kc,fa,fc,rfl,hai,hak,haf⟩:=hv.split
 have hil:V.items.length≤9223372036854775807:=by obtain⟨xs,h1,h2,_⟩:=hai;rw[←h2];exact owl h1
 have HAI:=hide hai
 have HIH:=hide ih
 have HEV:=hide he
 have HIT:Hid (∀ y∈V.items,WOk y):=hok.2.2.2.2.2.2
 have HLE:Hid (out.length+100+(V.items.map fun y=>10+Fo.wlen y).sum≤500000000):=by
  unfold Hid
  have:Fo.wlen (k:=k+1) V=100+4*V.text.length+(V.items.map fun y=>10+Fo.wlen y).sum+(V.keys.map fun s=>10+3*s.length).sum:=rfl
  omega
 have HWL:Hid (∀ m,(Fo.wjoin ((V.items.take m).map fun y=>Fo.wv y)).length≤((V.items.take m).map fun y=>10+Fo.wlen y).sum):=fun m=>by
  have h1:=Fo.wjoin_len ((V.items.take m).map fun y=>Fo.wv y)
  rw[List.map_map]at h1
  refine Nat.le_trans h1 (Fo.sum_le _ fun y hy=>?_)
  have:=Fo.wv_len (HIT.o y (List.mem_of_mem_take hy))
  simp only[Function.comp]
  omega
 generalize hni:V.items.length=n at *
 have HN:=hide hni
 clear hv hok hlen hai hak haf ih he hni
 generalize (V.kind:Int)=kd at *
 generalize V.n=nn at *
 generalize (V.places:Int)=pp at *
 generalize strN V.text=tx at *
 generalize V.keys.length=nk at *
 generalize V.filters.length=nf at *
 have hb1:Below w.heap.size w (w.alloc (.cells #[.int .i64 kd,.int .i64 nn,.int .i64 pp,.string tx,.slice ia n ic,.slice ka nk kc,.slice fa nf fc] 67)):=(Below.refl _ _).alloc (Nat.le_refl _) _
 have hx0:(w.alloc (.cells #[.int .i64 kd,.int .i64 nn,.int .i64 pp,.string tx,.slice ia n ic,.slice ka nk kc,.slice fa nf fc] 67)).heap[w.heap.size]?=some (.cells #[.int .i64 kd,.int .i64 nn,.int .i64 pp,.string tx,.slice ia n ic,.slice ka nk kc,.slice fa nf fc] 67 (0,0)):=bln _ _
 have h1:=h.alloc (.cells #[.int .i64 kd,.int .i64 nn,.int .i64 pp,.string tx,.slice ia n ic,.slice ka nk kc,.slice fa nf fc] 67)
 have HP:=hide (wput1 h1 { data:=#[91] } (by have:=HLE.o;show _+1≤_;omega))
 rw[World.size_alloc]at HP
 have HBE:Hid (∀ W,OutK B bf w W→Env E W):=fun W k=>HEV.o.outk hEB h k
 have HOW:=hide h
 go_enter Tryz.func184,Tryz.ntmps184
 go_wp2_with fail
 refine HP.o.mono ?_
 rintro e w1 ⟨rfl,ov1,h1b,k1⟩
 have hxb:w1.heap[w.heap.size]?=some (.cells #[.int .i64 kd,.int .i64 nn,.int .i64 pp,.string tx,.slice ia n ic,.slice ka nk kc,.slice fa nf fc] 67 (0,0)):=k1.block _ _ (by simp;have:=h.lt;omega) hx0 (Or.inr fun c fz e=>by cases e)
 have K1:Hid (OutK B bf w w1):=((OutK.refl B bf w).alloc _).trans k1
 have H1:=hide h1b
 have c4:w1.cell? ⟨w.heap.size,4,none⟩=some (.slice ia n ic):=ceb hxb
 clear hb1 hx0 h1 h1b k1 HP hxb h
 go_wp2_with fail
 go_loopw [4,5,12] (fun _ _ iv wr=>∃(m:Nat) (v:Value),m≤n∧iv=.int .i64 (m:Int)∧Hid (OutW B bf wr v pv (out++(91::Fo.wjoin ((V.items.take m).map fun y=>Fo.wv y))) pl)∧Hid (OutK B bf w wr)) (fun _ _ iv _=>n-(intOf iv).toNat)
 case atStart=>exact⟨0,ov1,Nat.zero_le _,rfl,H1.o,K1.o⟩
 case round =>
  obtain⟨m,v,hm,rfl,HW,HK⟩:=hrel
  have hwl:=HWL.o m
  rcases Nat.eq_or_lt_of_le hm with hm | hm
  ·subst hm
   have htk:V.items.take m=V.items:=List.take_of_length_le (by rw[HN.o];exact Nat.le_refl _)
   rw[htk]at HW hwl
   have hlw:(out++(91::Fo.wjoin (V.items.map fun y=>Fo.wv y))).length+1≤500000000:=by
    have:=HLE.o
    simp only[List.length_append,List.length_cons]
    omega
   have HP2:=hide (wput1 HW.o { data:=#[93] } hlw)
   have HRS:Hid (out++(91::Fo.wjoin (V.items.map fun y=>Fo.wv y))++bl { data:=#[93] }=out++(91::(Fo.wjoin (V.items.map fun y=>Fo.wv y)++[93]))):=by
    unfold Hid
    simp[bl]
   go_wp2_with fail
   refine HP2.o.mono ?_
   rintro e w9 ⟨rfl,ov9,h9,k9⟩
   have H9:=hide h9
   have K9:=hide (HK.o.trans k9)
   clear h9 k9 HP2
   go_wp2
   go_end0
   exact⟨rfl,ov9,by rw[←HRS.o];exact H9.o,K9.o⟩
  ·obtain⟨y,hy⟩:∃ y,V.items[m]?=some y:=⟨_,List.getElem?_eq_getElem (by rw[HN.o];exact hm)⟩
   have hst:=Fo.sum_take (fun y=>10+Fo.wlen y) V.items m y hy
   have hwt:=Fo.wjoin_take (fun y=>Fo.wv y) V.items m y hy
   obtain⟨g,c,x,hge,_,_,hx,hxc⟩:=(HAI.o.outk HOW.o HK.o).at hy
   rw[HN.o]at hge
   cases hge
   have hyo:=HIT.o y (List.mem_of_getElem? hy)
   obtain⟨k0,k1,k2,k3,ja,jl,jc,ka2,kl,kc2,fa2,fl,fc2,hxf⟩:=VIn.form hx
   subst hxf
   have d0:wr.cell? ⟨g,m*7,none⟩=some (.int .i64 k0):=hxc 0 _ rfl
   have d1:wr.cell? ⟨g,m*7+1,none⟩=some (.int .i64 k1):=hxc 1 _ rfl
   have d2:wr.cell? ⟨g,m*7+2,none⟩=some (.int .i64 k2):=hxc 2 _ rfl
   have d3:wr.cell? ⟨g,m*7+3,none⟩=some (.string k3):=hxc 3 _ rfl
   have d4:wr.cell? ⟨g,m*7+4,none⟩=some (.slice ja jl jc):=hxc 4 _ rfl
   have d5:wr.cell? ⟨g,m*7+5,none⟩=some (.slice ka2 kl kc2):=hxc 5 _ rfl
   have d6:wr.cell? ⟨g,m*7+6,none⟩=some (.slice fa2 fl fc2):=hxc 6 _ rfl
   have hlw:(out++(91::Fo.wjoin ((V.items.take m).map fun y=>Fo.wv y))).length+1+Fo.wlen y≤500000000:=by
    have:=HLE.o
    simp only[List.length_append,List.length_cons]
    omega
   have h2:=HW.o.alloc (.cells #[.int .i64 k0,.int .i64 k1,.int .i64 k2,.string k3,.slice ja jl jc,.slice ka2 kl kc2,.slice fa2 fl fc2] 67)
   have k2':OutK B bf w (wr.alloc (.cells #[.int .i64 k0,.int .i64 k1,.int .i64 k2,.string k3,.slice ja jl jc,.slice ka2 kl kc2,.slice fa2 fl fc2] 67)):=HK.o.alloc _
   have hxi:(wr.alloc (.cells #[.int .i64 k0,.int .i64 k1,.int .i64 k2,.string k3,.slice ja jl jc,.slice ka2 kl kc2,.slice fa2 fl fc2] 67)).heap[wr.heap.size]?=some (.cells #[.int .i64 k0,.int .i64 k1,.int .i64 k2,.string k3,.slice ja jl jc,.slice ka2 kl kc2,.slice fa2 fl fc2] 67 (0,0)):=bln _ _
   have hxv:VIn P k (wr.alloc (.cells #[.int .i64 k0,.int .i64 k1,.int .i64 k2,.string k3,.slice ja jl jc,.slice ka2 kl kc2,.slice fa2 fl fc2] 67)) (.agg #[.int .i64 k0,.int .i64 k1,.int .i64 k2,.string k3,.slice ja jl jc,.slice ka2 kl kc2,.slice fa2 fl fc2]) y:=VIn.outk k hx HW.o ((OutK.refl B bf wr).alloc _)
   have HBL:=hide (wo0 h2 m (by omega) (by omega))
   have H2:=hide h2
   have K2:=hide k2'
   have HXI:=hide hxi
   have HXV:=hide hxv
   have HWT:=hide hwt
   have hlo:(out++(91::Fo.wjoin ((V.items.take m).map fun y=>Fo.wv y))++(if m=0 then[]else[32])).length+Fo.wlen y≤500000000:=by
    have h32:(if m=0 then[]else[32]:List Nat).length≤1:=by split<;>simp
    rw[List.length_append]
    omega
   clear hx hxc hy h2 k2' hxi hxv hst hwl
   go_wp2_with fail
   refine HBL.o.mono ?_
   rintro e w3 ⟨rfl,ov3,h3,kk3⟩
   have hbf:=H2.o.lt
   have hxi3:w3.heap[wr.heap.size]?=some (.cells #[.int .i64 k0,.int .i64 k1,.int .i64 k2,.string k3,.slice ja jl jc,.slice ka2 kl kc2,.slice fa2 fl fc2] 67 (0,0)):=kk3.block _ _ (by simp;have:=HW.o.lt;omega) HXI.o (Or.inr fun c fz e=>by cases e)
   have HV:=hide (HIH.o B bf E w3 ov3 pv _ pl P _ y (HBE.o w3 (K2.o.trans kk3)) hEB h3 (VIn.outk k HXV.o H2.o kk3) hyo hlo)
   have K3:=hide (K2.o.trans kk3)
   have e0:w3.cell? ⟨wr.heap.size,0,none⟩=some (.int .i64 k0):=ceb hxi3
   have e1:w3.cell? ⟨wr.heap.size,1,none⟩=some (.int .i64 k1):=ceb hxi3
   have e2:w3.cell? ⟨wr.heap.size,2,none⟩=some (.int .i64 k2):=ceb hxi3
   have e3:w3.cell? ⟨wr.heap.size,3,none⟩=some (.string k3):=ceb hxi3
   have e4:w3.cell? ⟨wr.heap.size,4,none⟩=some (.slice ja jl jc):=ceb hxi3
   have e5:w3.cell? ⟨wr.heap.size,5,none⟩=some (.slice ka2 kl kc2):=ceb hxi3
   have e6:w3.cell? ⟨wr.heap.size,6,none⟩=some (.slice fa2 fl fc2):=ceb hxi3
   clear h3 kk3 hxi3 HBL
   go_wp2_with fail
   refine HV.o.mono ?_
   rintro e w5 ⟨rfl,ov5,h5,k5⟩
   have H5:=hide h5
   have K5:=hide (K3.o.trans k5)
   clear h5 k5 HV
   go_wp2
   go_roundw
   case rel =>
    have hr:out++(91::Fo.wjoin ((V.items.take (m+1)).map fun y=>Fo.wv y))=out++(91::Fo.wjoin ((V.items.take m).map fun y=>Fo.wv y))++(if m=0 then[]else[32])++Fo.wv y:=by rw[HWT.o];simp
    exact⟨m+1,ov5,by omega,by first | rfl | (congr 1),by rw[hr];exact H5.o,K5.o⟩
   case measure=>simp[intOf];omega
end
end Go.Proofs.YtgkljcmjnphpeaaGreatDoor
