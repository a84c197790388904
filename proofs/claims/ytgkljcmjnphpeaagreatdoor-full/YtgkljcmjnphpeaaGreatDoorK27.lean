import Derived.Test.YtgkljcmjnphpeaaGreatDoorK26
set_option linter.unusedVariables false
set_option linter.unusedSimpArgs false
set_option maxHeartbeats 2000000
set_option maxRecDepth 100000
namespace Go.Proofs.YtgkljcmjnphpeaaGreatDoor
open Go.RowKit
section
variable{B br bf bd off cap:Nat}{d:List Nat}{most:Nat}{fixed:List Value}{w:World}{p held left window:Nat}{ov:Value}{out:List Nat}
theorem bii(a b:Nat)(ha:a<256)(hb:b<256)(h:Fo.bits8 a=Fo.bits8 b):a=b:=by
 rw[←Fo.val_bits8 a ha,←Fo.val_bits8 b hb,h]
theorem bOi:∀(a b:List Nat),a.length=b.length→(∀ i,i<a.length→nth a i<256)→(∀ i,i<b.length→nth b i<256)→Fo.bitsOf a=Fo.bitsOf b→a=b
 | [],[],_,_,_,_=>rfl
 | [],_::_,h,_,_,_=>by simp at h
 |_::_,[],h,_,_,_=>by simp at h
 |x::a,y::b,hl,h1,h2,h=>by
  rw[Fo.bitsOf_cons,Fo.bitsOf_cons]at h
  have h3:=List.append_inj h rfl
  have e1:x=y:=bii x y (h1 0 (by simp)) (h2 0 (by simp)) h3.1
  have e2:a=b:=bOi a b (by simpa using hl) (fun i hi=>h1 (i+1) (by simpa using hi)) (fun i hi=>h2 (i+1) (by simpa using hi)) h3.2
  rw[e1,e2]
theorem ada(b o i:Nat):(⟨b,o,none⟩:Addr).add i=⟨b,o+i,none⟩:=by unfold Addr.add;split<;>simp_all
theorem Bi.bytes(h:Bi B br bf bd off cap d most fixed w p held 0 window ov out)(D:List Nat)(hD:∀ i,i<D.length→nth D i<256)(rest:List Bool)(hr:Fo.bitsOf (d.drop p)=Fo.bitsOf D++rest) :
  p+D.length≤d.length∧(∀ i,i<D.length→nth d (p+i)=nth D i)∧Fo.bitsOf (d.drop (p+D.length))=rest:=by
 have hp:=h.rd.lp
 have hl:p+D.length≤d.length:=by
  have:=congrArg List.length hr
  rw[Fo.bitsOf_length,List.length_append,Fo.bitsOf_length,List.length_drop]at this
  omega
 have e:d.drop p=(d.drop p).take D.length++d.drop (p+D.length):=by
  rw[←List.drop_drop,List.take_append_drop]
 rw[e,Fo.bitsOf_append]at hr
 have hlen:(Fo.bitsOf ((d.drop p).take D.length)).length=(Fo.bitsOf D).length:=by
  rw[Fo.bitsOf_length,Fo.bitsOf_length,List.length_take,List.length_drop];omega
 have h2:=List.append_inj hr hlen
 have e3:(d.drop p).take D.length=D:=by
  refine bOi _ _ (by rw[List.length_take,List.length_drop];omega) ?_ hD h2.1
  intro i hi
  rw[List.length_take,List.length_drop]at hi
  have:=h.rd.byt (p+i) (by omega)
  simpa[nth,List.getElem?_take,List.getElem?_drop,show i<D.length by omega]using this
 refine⟨hl,?_,h2.2⟩
 intro i hi
 rw[←e3]
 simp[nth,List.getElem?_take,List.getElem?_drop,hi]
theorem Fl.whole{rest:List Bool}(h:Fl B br bf bd off cap d most fixed w rest window ov out)(h8:rest.length%8=0):∃ p held,Bi B br bf bd off cap d most fixed w p held 0 window ov out∧Fo.bitsOf (d.drop p)=rest:=by
 obtain⟨p,held,left,hb,hl,hr⟩:=h
 have:left=0:=by
  rw[←hr,bL,List.length_append,Fo.numBits_length,Fo.bitsOf_length]at h8;omega
 subst this
 exact⟨p,held,hb,by rw[←hr];simp[bL,Fo.numBits]⟩
theorem bNo(n v:Nat)(hn:n≤16)(hv:v<2^n){rest:List Bool}(h:Fl B br bf bd off cap d most fixed w (Fo.numBits n v++rest) window ov out) :
  Calls Tryz.prog 221 #[.pointer (some ⟨bf,0,none⟩),.int .i64 n] w fun e w'=>e=.returned (.int .i64 v)∧Fl B br bf bd off cap d most fixed w' rest window ov out∧Kept 5 B [br,bf] w w':=by
 refine(bo_ n hn (by simp[Fo.numBits_length]) h).mono ?_
 rintro e w' ⟨rfl,hf,k⟩
 rw[List.drop_left' (Fo.numBits_length n v)]at hf
 rw[List.take_left' (Fo.numBits_length n v),Fo.val_numBits,Nat.mod_eq_of_lt hv]
 exact⟨rfl,hf,k⟩
theorem so3(D:List Nat)(hD0:0<D.length)(hD1:D.length≤65535)(hD:∀ i,i<D.length→nth D i<256){rest rest':List Bool}(h:Fl B br bf bd off cap d most fixed w rest window ov out)
  (hr:rest.drop (rest.length%8)=Fo.numBits 16 D.length++(Fo.numBits 16 (65535-D.length)++(Fo.bitsOf D++rest'))) (h8:rest'.length%8=0) (ho:out.length+D.length≤most) :
  Calls Tryz.prog 222 #[.pointer (some ⟨bf,0,none⟩)] w fun e w'=>e=.returned (.tuple #[])∧∃ ov',Fl B br bf bd off cap d most fixed w' rest' window ov' (out++D)∧Kept 5 B [br,bf] w w':=by
 have HR:=hide hr
 have H8:=hide h8
 clear hr h8
 have tok:True:=trivial
 go_enter Tryz.func222,Tryz.ntmps222
 go_wp2_with fail
 refine(alo h).mono ?_
 rintro e w1 ⟨rfl,⟨p1,held1,hb1,hq1⟩,k1⟩
 rw[HR.o]at hq1
 have hf1:Fl B br bf bd off cap d most fixed w1 (Fo.numBits 16 D.length++(Fo.numBits 16 (65535-D.length)++(Fo.bitsOf D++rest'))) window ov out:=⟨p1,held1,0,hb1,by omega,by rw[←hq1];simp[bL,Fo.numBits]⟩
 clear hb1 hq1 h
 go_wp2_with fail
 go_region_with (first | (go_at_call 221;have _t:=tok;refine(bNo 16 D.length (by omega) (by omega) hf1.drew).mono ?_;rintro e w2 ⟨rfl,hf2,k2⟩;clear tok) | (go_at_call 221;refine(bNo 16 (65535-D.length) (by omega) (by omega) hf2).mono ?_;rintro e w3 ⟨rfl,hf3,k3⟩))
 have kk:=(k1.drew.trans k2).trans k3
 clear k1 k2 k3 hf1 hf2
 have e1:((65535-D.length:Nat):Int)=65535-(D.length:Int):=by omega
 rw[e1]
 go_wp2_with fail
 refine(muy _).mono ?_
 rintro e w' ⟨rfl,rfl⟩
 obtain⟨p,held,hb,hq⟩:=hf3.whole (by rw[List.length_append,Fo.bitsOf_length];have:=H8.o;omega)
 obtain⟨q1,q2,q3⟩:=hb.bytes D hD rest' hq
 have Q2:=hide q2
 have Q3:=hide q3
 clear q2 q3 hq hf3
 have c0:=hb.c0
 go_wp2_with fail
 go_region_with (first | (go_at_call 164;refine(tao (hb.rd.drewN 1) D.length hD0 q1).mono ?_;rintro e w4 ⟨rfl,r4,k4⟩;have h4:=hb.rdKept r4 (((Kept.refl _ _ _ _).drewN 1).trans k4);have c4:=h4.c0) | (go_at_call 213;refine(puo r4 D ⟨bd,off+p,none⟩ (cap-p) ho (by have:=r4.sz;omega) (fun i hi=>by rw[ada,←Q2.o i hi,Nat.add_assoc];exact r4.dat (p+i) (by omega))).mono ?_;rintro e w5 ⟨rfl,ov5,r5,k5⟩))
 all_goals go_wp2
 all_goals go_end0
 all_goals exact⟨rfl,ov5,⟨p+D.length,held,0,h4.rdKept r5 k5,by omega,by rw[←Q3.o];simp[bL,Fo.numBits]⟩,(kk.drewN 1).trans ((k4.trans k5).mono (by simp))⟩
def ints(l:List Nat):List Value:=l.map fun x:Nat=>.int .i64 (x:Int)
def IntRow(w:World)(g:Nat)(l:List Nat):Prop:=∃ c fz,w.heap[g]?=some (.cells c 3 fz)∧∀ i,i<l.length→c[i]?=some (.int .i64 (nth l i:Nat))
theorem IntRow.kept{g:Nat}{l:List Nat}{w':World}{S:List Nat}(h:IntRow w g l)(k:Kept 5 B S w w')(hS:g∉S):IntRow w' g l:=by
 obtain⟨c,fz,hb,hc⟩:=h
 exact⟨c,fz,k.block g _ hS hb (Or.inr (by intro c' fz' e;simp at e)),hc⟩
theorem IntRow.cell{g:Nat}{l:List Nat}(h:IntRow w g l)(i:Nat)(hi:i<l.length):w.cell? ⟨g,i,none⟩=some (.int .i64 (nth l i:Nat)):=by
 obtain⟨c,fz,hb,hc⟩:=h
 rw[ceb hb];exact hc i hi
structure Fix(w:World)(br bf:Nat)(fixed:List Value):Prop where
 ex:∃ g1 c1 g2 c2,fixed=ints Fo.csF++(.slice (some ⟨g1,0,none⟩) Fo.ssF.length c1::(ints Fo.cdF++[.slice (some ⟨g2,0,none⟩) Fo.sdF.length c2]))∧IntRow w g1 Fo.ssF∧IntRow w g2 Fo.sdF∧g1≠br∧g1≠bf∧g2≠br∧g2≠bf
theorem cFl:Fo.csF.length=16:=by decide +kernel
theorem cdFl:Fo.cdF.length=16:=by decide +kernel
theorem fO:CO Fo.fixedC:=by
 refine⟨?_,?_,?_,?_⟩
 ·rw[Fo.fixedC_cs,Fo.fixedC_ss];decide +kernel
 ·rw[Fo.fixedC_ss];decide +kernel
 ·rw[Fo.fixedC_cd,Fo.fixedC_sd];decide +kernel
 ·rw[Fo.fixedC_sd];decide +kernel
theorem ig(l:List Nat)(i:Nat)(h:i<l.length):(ints l)[i]?=some (.int .i64 (nth l i:Nat)):=by
 simp[ints,nth,h]
theorem Fix.codes(h:Fix w br bf fixed):Codes4 B br bf bd off cap d most fixed window bf 4 Fo.fixedC w:=by
 intro w' r ov out hf k
 obtain⟨g1,c1,g2,c2,he,i1,i2,n1,n2,n3,n4⟩:=h.ex
 obtain⟨p,held,left,hb,hl,hr⟩:=hf
 have j1:=i1.kept k (by simp[n1,n2])
 have j2:=i2.kept k (by simp[n3,n4])
 have hcell:∀ i v,fixed[i]?=some v→w'.cell? ⟨bf,4+i,none⟩=some v:=by
  intro i v hv
  rw[ceb hb.blk,Nat.add_comm 4 i]
  simpa using hv
 have l1:=cFl
 have l2:=cdFl
 have li1:(ints Fo.csF).length=16:=by simpa[ints]using l1
 have li2:(ints Fo.cdF).length=16:=by simpa[ints]using l2
 rw[Fo.fixedC_cs,Fo.fixedC_ss,Fo.fixedC_cd,Fo.fixedC_sd]
 generalize Fo.csF=CS at *
 generalize Fo.ssF=SS at *
 generalize Fo.cdF=CD at *
 generalize Fo.sdF=SD at *
 refine⟨⟨?_,g1,c1,?_,j1.cell⟩,⟨?_,g2,c2,?_,j2.cell⟩⟩
 ·intro i hi
  refine hcell i _ ?_
  rw[he,List.getElem?_append_left (by omega)];exact ig _ _ (by omega)
 ·refine hcell 16 _ ?_
  rw[he,List.getElem?_append_right (by omega),li1];rfl
 ·intro i hi
  rw[show 4+17+i=4+(17+i)by omega]
  refine hcell (17+i) _ ?_
  rw[he,List.getElem?_append_right (by omega),li1,show 17+i-16=i+1 by omega,List.getElem?_cons_succ,List.getElem?_append_left (by omega)];exact ig _ _ (by omega)
 ·rw[show 4+17+16=4+33 by omega]
  refine hcell 33 _ ?_
  rw[he,List.getElem?_append_right (by omega),li1,show 33-16=16+1 by omega,List.getElem?_cons_succ,List.getElem?_append_right (by omega),li2];rfl
theorem bfo(b:Bool)(hx:Fix w br bf fixed){rest rest':List Bool}{out':List Nat}(h:Fl B br bf bd off cap d most fixed w (b::(Fo.numBits 2 1++rest)) window ov out)
  (hw:window≤32768) (hp:Fo.PartsTo Fo.fixedC window most rest out (.ok (rest',out'))) :
  Calls Tryz.prog 161 #[.pointer (some ⟨bf,0,none⟩)] w fun e w'=>e=.returned (.bool (!b))∧∃ ov',Fl B br bf bd off cap d most fixed w' rest' window ov' out'∧Kept 5 B [br,bf] w w':=by
 have HP:=hide hp
 clear hp
 cases b
 all_goals
  go_enter Tryz.func161,Tryz.ntmps161
  go_wp2_with fail
  refine(bio h).mono ?_
  rintro e w1 ⟨rfl,hf1,k1⟩
  simp only[Bool.toNat_false,Bool.toNat_true]
  go_wp2_with fail
  refine(bNo 2 1 (by omega) (by omega) hf1).mono ?_
  rintro e w2 ⟨rfl,hf2,k2⟩
  go_wp2_with fail
  refine(coo bf 4 Fo.fixedC fO (hx.codes.kept (k1.trans k2)) hf2 hw HP.o).mono ?_
  rintro e w3 ⟨rfl,ov3,hf3,k3⟩
  go_wp2
  go_ret
  exact⟨rfl,ov3,hf3,(k1.trans k2).trans k3⟩
theorem bso(b:Bool)(D:List Nat)(hD0:0<D.length)(hD1:D.length≤65535)(hD:∀ i,i<D.length→nth D i<256){rest rest':List Bool}(h:Fl B br bf bd off cap d most fixed w (b::(Fo.numBits 2 0++rest)) window ov out)
  (hr:rest.drop (rest.length%8)=Fo.numBits 16 D.length++(Fo.numBits 16 (65535-D.length)++(Fo.bitsOf D++rest'))) (h8:rest'.length%8=0) (ho:out.length+D.length≤most) :
  Calls Tryz.prog 161 #[.pointer (some ⟨bf,0,none⟩)] w fun e w'=>e=.returned (.bool (!b))∧∃ ov',Fl B br bf bd off cap d most fixed w' rest' window ov' (out++D)∧Kept 5 B [br,bf] w w':=by
 have HR:=hide hr
 have H8:=hide h8
 clear hr h8
 cases b
 all_goals
  go_enter Tryz.func161,Tryz.ntmps161
  go_wp2_with fail
  refine(bio h).mono ?_
  rintro e w1 ⟨rfl,hf1,k1⟩
  simp only[Bool.toNat_false,Bool.toNat_true]
  go_wp2_with fail
  refine(bNo 2 0 (by omega) (by omega) hf1).mono ?_
  rintro e w2 ⟨rfl,hf2,k2⟩
  go_wp2_with fail
  refine(so3 D hD0 hD1 hD hf2 HR.o H8.o ho).mono ?_
  rintro e w3 ⟨rfl,ov3,hf3,k3⟩
  go_wp2
  go_ret
  exact⟨rfl,ov3,hf3,(k1.trans k2).trans k3⟩
end
theorem nss(l:List Nat)(i x:Nat)(h:i<l.length):nth (l.set i x) i=x:=by simp[nth,h]
theorem nsn(l:List Nat)(i j x:Nat)(h:i≠j):nth (l.set i x) j=nth l j:=by simp[nth,List.getElem?_set_ne h]
theorem lie(a b:List Nat)(hl:a.length=b.length)(h:∀ i,i<a.length→nth a i=nth b i):a=b:=by
 apply List.ext_getElem hl
 intro i h1 h2
 have:=h i h1
 simpa[nth,h1,h2]using this
theorem nr(n i x:Nat)(h:i<n):nth (List.replicate n x) i=x:=by simp[nth,h]
def cnt(l:List Nat):List Nat:=(List.range 16).map fun j=>l.count j
theorem cnl(l:List Nat):(cnt l).length=16:=by simp[cnt]
theorem ntc(l:List Nat)(j:Nat)(h:j<16):nth (cnt l) j=l.count j:=by simp[nth,cnt,h]
theorem cns(l:List Nat)(x:Nat)(hx:x<16):cnt (l++[x])=(cnt l).set x (nth (cnt l) x+1):=by
 refine lie _ _ (by simp[cnl]) ?_
 intro i hi
 rw[cnl]at hi
 rw[ntc _ _ hi,List.count_append]
 by_cases h:x=i
 ·subst h;rw[nss _ _ _ (by rw[cnl];exact hx),ntc _ _ hx];simp
 ·rw[nsn _ _ _ _ h,ntc _ _ hi];simp[h]
def cz(l:List Nat):List Nat:=(cnt l).set 0 0
theorem cl(l:List Nat):(cz l).length=16:=by simp[cz,cnl]
theorem nc0(l:List Nat):nth (cz l) 0=0:=nss _ _ _ (by rw[cnl];omega)
theorem nc_0(l:List Nat)(j:Nat)(h0:0<j)(h:j<16):nth (cz l) j=l.count j:=by rw[cz,nsn _ _ _ _ (by omega),ntc _ _ h]
def pre(c:List Nat)(j:Nat):Nat:=(c.take j).sum
theorem prs(c:List Nat)(j:Nat)(h:j<c.length):pre c (j+1)=pre c j+nth c j:=by
 unfold pre;rw[List.take_succ_eq_append_getElem h,List.sum_append];simp[nth,h]
theorem prm(c:List Nat)(a b:Nat)(h:a≤b):pre c a≤pre c b:=by
 induction b with
 |zero =>
  obtain rfl:a=0:=by omega
  exact Nat.le_refl _
 |succ b ih =>
  rcases Nat.lt_or_ge a (b+1)with h1 | h1
  ·refine Nat.le_trans (ih (by omega)) ?_
   rcases Nat.lt_or_ge b c.length with h2 | h2
   ·rw[prs _ _ h2];omega
   ·unfold pre;rw[List.take_of_length_le h2,List.take_of_length_le (by omega)];exact Nat.le_refl _
  ·obtain rfl:a=b+1:=by omega
   exact Nat.le_refl _
theorem pra(c:List Nat)(h:c.length=16):pre c 16=c.sum:=by unfold pre;rw[List.take_of_length_le (by omega)]
def pl(c:List Nat)(m:Nat):List Nat:=(List.range 16).map fun j=>if j≤m then pre c j else 0
theorem pll(c:List Nat)(m:Nat):(pl c m).length=16:=by simp[pl]
theorem np_(c:List Nat)(m j:Nat)(h:j<16):nth (pl c m) j=if j≤m then pre c j else 0:=by simp[nth,pl,h]
theorem plz(c:List Nat):pl c 0=List.replicate 16 0:=by
 refine lie _ _ (by simp[pll]) ?_
 intro i hi
 rw[pll]at hi
 rw[np_ _ _ _ hi]
 by_cases h:i≤0
 ·obtain rfl:i=0:=by omega
  simp[pre,nth]
 ·rw[if_neg h,nr _ _ _ hi]
theorem pl_step(c:List Nat)(m:Nat)(hm:m<15)(hc:c.length=16):pl c (m+1)=(pl c m).set (m+1) (nth (pl c m) m+nth c m):=by
 refine lie _ _ (by simp[pll]) ?_
 intro i hi
 rw[pll]at hi
 rw[np_ _ _ _ hi,np_ _ _ _ (by omega),if_pos (Nat.le_refl m)]
 by_cases h:m+1=i
 ·subst h
  rw[nss _ _ _ (by rw[pll];omega),if_pos (Nat.le_refl _),prs _ _ (by omega)]
 ·rw[nsn _ _ _ _ h,np_ _ _ _ hi]
  by_cases h2:i≤m
  ·rw[if_pos h2,if_pos (by omega)]
  ·rw[if_neg h2,if_neg (by omega)]
def fT(l:List Nat):Nat→List Nat × List Nat
 |0=>(pl (cz l) 15,List.replicate (cz l).sum 0)
 |k+1=>if nth l k=0 then fT l k else((fT l k).1.set (nth l k) (nth (fT l k).1 (nth l k)+1),(fT l k).2.set (nth (fT l k).1 (nth l k)) k)
theorem fTi(l:List Nat)(hl:∀ i,i<l.length→nth l i<16):∀ k,k≤l.length →
  (fT l k).1.length=16∧(fT l k).2.length=(cz l).sum∧∀ x,0<x→x<16→nth (fT l k).1 x=pre (cz l) x+(l.take k).count x
 |0,_=>⟨pll _ _,by simp[fT],fun x h0 hx=>by simp[fT,np_ _ _ _ hx,show x≤15 by omega]⟩
 |k+1,hk=>by
  obtain⟨h1,h2,h3⟩:=fTi l hl k (by omega)
  have hlk:=hl k (by omega)
  have e:l.take (k+1)=l.take k++[nth l k]:=by rw[List.take_succ_eq_append_getElem (by omega)];simp[nth,show k<l.length by omega]
  unfold fT
  by_cases c:nth l k=0
  ·rw[if_pos c]
   refine⟨h1,h2,fun x h0 hx=>?_⟩
   have h7:¬ 0=x:=by omega
   rw[h3 x h0 hx,e,List.count_append,c];simp[h7]
  ·rw[if_neg c]
   refine⟨by simp[h1],by simp[h2],fun x h0 hx=>?_⟩
   by_cases hx2:nth l k=x
   ·subst hx2
    rw[nss _ _ _ (by omega),h3 _ h0 hx,e,List.count_append];simp;omega
   ·rw[nsn _ _ _ _ hx2,h3 x h0 hx,e,List.count_append];simp[hx2]
theorem fTl(l:List Nat)(hl:∀ i,i<l.length→nth l i<16)(k:Nat)(hk:k<l.length)(h0:0<nth l k):nth (fT l k).1 (nth l k)<(cz l).sum:=by
 obtain⟨_,_,h3⟩:=fTi l hl k (by omega)
 have hx:=hl k hk
 rw[h3 _ h0 hx]
 have e:l=l.take k++(nth l k::l.drop (k+1)):=by
  have:nth l k=l[k]:=by simp[nth,hk]
  rw[this,←List.drop_eq_getElem_cons hk,List.take_append_drop]
 have hc:(l.take k).count (nth l k)<l.count (nth l k):=by
  have h4:=congrArg (List.count (nth l k)) e
  rw[List.count_append,List.count_cons_self]at h4
  omega
 have h5:=prs (cz l) (nth l k) (by rw[cl];exact hx)
 rw[nc_0 _ _ h0 hx]at h5
 have h6:=prm (cz l) (nth l k+1) 16 (by omega)
 rw[pra _ (cl l)]at h6
 omega
theorem csl(l:List Nat)(hl:∀ i,i<l.length→nth l i<16):(cz l).sum≤16*l.length:=by
 have:∀ c:List Nat,(∀ i,i<c.length→nth c i≤l.length)→c.sum≤c.length*l.length:=by
  intro c
  induction c with
  |nil=>simp
  |cons a c ih =>
   intro h
   have h1:=ih (fun i hi=>h (i+1) (by simpa using hi))
   have h2:a≤l.length:=h 0 (by simp)
   simp only[List.sum_cons,List.length_cons,Nat.add_mul,Nat.one_mul];omega
 have h:=this (cz l) (fun i hi=>by
  rw[cl]at hi
  by_cases h0:i=0
  ·subst h0;rw[nc0];omega
  ·rw[nc_0 _ _ (by omega) hi];exact List.count_le_length)
 rw[cl]at h;exact h
theorem fic:cz Fo.lensFixed=Fo.csF∧(fT Fo.lensFixed 288).2=Fo.ssF∧cz Fo.distFixed=Fo.cdF∧(fT Fo.distFixed 32).2=Fo.sdF:=by
 refine⟨by decide +kernel,by decide +kernel,by decide +kernel,by decide +kernel⟩
section
variable{w:World}
def zero17:Obj:=.cells (ints (List.replicate 16 0)++[Value.slice none 0 0]).toArray 162 (0,0)
structure Co1(w:World)(wr:World)(c:List Nat):Prop where
 below:Below w.heap.size w wr
 size:wr.heap.size=w.heap.size+2
 res:wr.heap[w.heap.size]?=some zero17
 cod:wr.heap[w.heap.size+1]?=some (.cells (ints c++[Value.slice none 0 0]).toArray 162 (0,0))
 len:c.length=16
theorem Co1.cell{wr:World}{c:List Nat}(h:Co1 w wr c)(i:Nat)(hi:i<16):wr.cell? ⟨w.heap.size+1,i,none⟩=some (.int .i64 (nth c i:Nat)):=by
 rw[ceb h.cod]
 have:=h.len
 simp[ints,nth,List.getElem?_append_left,this,hi]
theorem Co1.set{wr:World}{c:List Nat}(h:Co1 w wr c)(i x:Nat)(hi:i<16):Co1 w (wr.setCell ⟨w.heap.size+1,i,none⟩ (.int .i64 x)) (c.set i x):=by
 have hlen:=h.len
 refine⟨h.below.setCell (by show w.heap.size≤w.heap.size+1;omega) _,by simp[h.size],?_,?_,by simp[h.len]⟩
 ·rw[bsCn _ (by omega)];exact h.res
 ·rw[bsC _ h.cod]
  have:i<(ints c).length:=by simp[ints,hlen,hi]
  simp only[List.setIfInBounds_toArray,List.set_append_left _ _ this]
  simp[ints,List.map_set]
structure Co2(w:World)(wr:World)(c P:List Nat)(v:Value):Prop where
 below:Below w.heap.size w wr
 size:w.heap.size+3≤wr.heap.size
 res:wr.heap[w.heap.size]?=some zero17
 cod:wr.heap[w.heap.size+1]?=some (.cells (ints c++[v]).toArray 162 (0,0))
 plc:wr.heap[w.heap.size+2]?=some (.cells (ints P).toArray 160 (0,0))
 len:c.length=16
 lep:P.length=16
theorem Co2.cell{wr:World}{c P:List Nat}{v:Value}(h:Co2 w wr c P v)(i:Nat)(hi:i<16):wr.cell? ⟨w.heap.size+1,i,none⟩=some (.int .i64 (nth c i:Nat)):=by
 rw[ceb h.cod]
 have:=h.len
 simp[ints,nth,List.getElem?_append_left,this,hi]
theorem Co2.cell16{wr:World}{c P:List Nat}{v:Value}(h:Co2 w wr c P v):wr.cell? ⟨w.heap.size+1,16,none⟩=some v:=by
 rw[ceb h.cod]
 have:=h.len
 simp[ints,List.getElem?_append_right,this]
theorem Co2.place{wr:World}{c P:List Nat}{v:Value}(h:Co2 w wr c P v)(i:Nat)(hi:i<16):wr.cell? ⟨w.heap.size+2,i,none⟩=some (.int .i64 (nth P i:Nat)):=by
 rw[ceb h.plc]
 have:=h.lep
 simp[ints,nth,this,hi]
theorem Co2.drew{wr:World}{c P:List Nat}{v:Value}(h:Co2 w wr c P v):Co2 w wr.drew c P v:=⟨h.below.drew,h.size,h.res,h.cod,h.plc,h.len,h.lep⟩
theorem Co2.setP{wr:World}{c P:List Nat}{v:Value}(h:Co2 w wr c P v)(i x:Nat)(hi:i<16):Co2 w (wr.setCell ⟨w.heap.size+2,i,none⟩ (.int .i64 x)) c (P.set i x) v:=by
 refine⟨h.below.setCell (by show w.heap.size≤w.heap.size+2;omega) _,by simp[h.size],?_,?_,?_,h.len,by simp[h.lep]⟩
 ·rw[bsCn _ (by omega)];exact h.res
 ·rw[bsCn _ (by omega)];exact h.cod
 ·rw[bsC _ h.plc];simp[ints,List.map_set]
theorem Co2.setV{wr:World}{c P:List Nat}{v:Value}(h:Co2 w wr c P v)(u:Value):Co2 w (wr.setCell ⟨w.heap.size+1,16,none⟩ u) c P u:=by
 have hlen:=h.len
 refine⟨h.below.setCell (by show w.heap.size≤w.heap.size+1;omega) _,by simp[h.size],?_,?_,?_,h.len,h.lep⟩
 ·rw[bsCn _ (by omega)];exact h.res
 ·rw[bsC _ h.cod]
  have:(ints c).length=16:=by simp[ints,hlen]
  simp only[List.setIfInBounds_toArray]
  rw[List.set_append_right _ _ (by omega),this];rfl
 ·rw[bsCn _ (by omega)];exact h.plc
theorem Co2.other{wr:World}{c P:List Nat}{v:Value}(h:Co2 w wr c P v)(a:Addr)(u:Value)(ha:w.heap.size+3≤a.block):Co2 w (wr.setCell a u) c P v:=by
 refine⟨h.below.setCell (by omega) _,by simp[h.size],?_,?_,?_,h.len,h.lep⟩
 ·rw[Below.heap_setCell _ _ _ _ (by omega)];exact h.res
 ·rw[Below.heap_setCell _ _ _ _ (by omega)];exact h.cod
 ·rw[Below.heap_setCell _ _ _ _ (by omega)];exact h.plc
theorem Co2.grown{wr w1:World}{c P:List Nat}{v:Value}(h:Co2 w wr c P v)(hg:wr.grownBy w1 none):Co2 w w1 c P v:=by
 have hs:=h.size
 refine⟨h.below.grown hg (by omega) (fun k h=>by cases h),by have:=hg.size;omega,?_,?_,?_,h.len,h.lep⟩
 ·rw[hg.block _ (by omega) (by simp)];exact h.res
 ·rw[hg.block _ (by omega) (by simp)];exact h.cod
 ·rw[hg.block _ (by omega) (by simp)];exact h.plc
theorem cos{wr:World}{l:List Nat}(co:Co1 w wr (cnt l)):Co2 w ((wr.setCell ⟨w.heap.size+1,0,none⟩ (.int .i64 0)).alloc (.cells (ints (List.replicate 16 0)).toArray 160 (0,0))) (cz l) (pl (cz l) 0) (.slice none 0 0):=by
 have h1:Co1 w (wr.setCell ⟨w.heap.size+1,0,none⟩ (.int .i64 0)) (cz l):=co.set 0 0 (by omega)
 refine⟨h1.below.alloc (by rw[h1.size];omega) _,by rw[World.size_alloc,h1.size];omega,bla _ h1.res,bla _ h1.cod,?_,cl l,pll _ _⟩
 rw[plz]
 have:=bln (wr.setCell ⟨w.heap.size+1,0,none⟩ (.int .i64 0)) (.cells (ints (List.replicate 16 0)).toArray 160 (0,0))
 rw[h1.size]at this
 exact this
theorem rm{w1:World}{B g N:Nat}(h:w1.ownsRow B 3 1 (.slice (some ⟨g,0,none⟩) N N) N (madeCells (Value.cells (.int .i64 0)) (N*1)).toList):w1.heap[g]?=some (.cells (ints (List.replicate N 0)).toArray 3 (0,0)):=by
 rcases h.2 with⟨h0,_⟩ | ⟨g',cap,cur,hv,_,hh,_,_,hcs,ht⟩
 ·cases h0
 cases hv
 have e:cur.toList=(madeCells (Value.cells (.int .i64 0)) (N*1)).toList:=by
  rw[←ht,List.take_of_length_le (by rw[Array.length_toList,hcs];omega)]
 have e2:(madeCells (Value.cells (.int .i64 0)) (N*1)).toList=ints (List.replicate N 0):=by
  show(madeCells #[Value.int .i64 0] (N*1)).toList=_
  rw[toList_madeCells_one];simp[ints]
 rw[hh,←e2,←e]
theorem there17{wr:World}{b:Nat}(h:wr.heap[b]?=some zero17):wr.there b 0 17:=by
 intro j hj
 have h':wr.heap[b]?=some (.cells (ints (List.replicate 16 0)++[Value.slice none 0 0]).toArray 162 (0,0)):=h
 refine⟨?_,frb h'⟩
 rw[ceb h',List.getElem?_toArray,List.getElem?_eq_getElem (by simp[ints];omega)];rfl
theorem one17(c:List Nat)(a:Option Addr){n m:Nat}:(ints c++[Value.slice a n m]).toArray.all (·.oneCell')=true:=by
 simp[ints,Value.oneCell']
theorem Tryz.infoInt:(Tryz.prog.info? 3).map (fun i=>(i.zero,i.size,i.bytes))=some (some (.int .i64 0),1,8):=by kernel_rfl
theorem cOo(gl ol cap:Nat)(l:List Nat)(hl:∀ i,i<l.length→nth l i<16)(hn:l.length≤320)(hg:gl<w.heap.size)(hc:∀ i,i<l.length→w.cell? ⟨gl,ol+i,none⟩=some (.int .i64 (nth l i:Nat))) :
  Calls Tryz.prog 219 #[.slice (some ⟨gl,ol,none⟩) l.length cap] w fun e w'=>∃ g,e=.returned (.agg (ints (cz l)++[Value.slice (some ⟨g,0,none⟩) (cz l).sum (cz l).sum]).toArray)∧IntRow w' g (fT l l.length).2∧Below w.heap.size w w'∧w.heap.size≤g:=by
 go_enter Tryz.func219,Tryz.ntmps219
 go_wp2
 go_loopw [12] (fun i wr=>∃ k:Nat,k≤l.length∧i=.int .i64 k∧Co1 w wr (cnt (l.take k))) (fun i _=>l.length-(intOf i).toNat)
 case atStart =>
  refine⟨0,Nat.zero_le _,rfl,⟨((Below.refl _ _).alloc (Nat.le_refl _) _).alloc (by simp) _,by simp,?_,?_,cnl _⟩⟩
  ·exact bla _ (bln w zero17)
  ·have:=bln (w.alloc zero17) (.cells (ints (cnt (l.take 0))++[Value.slice none 0 0]).toArray 162 (0,0))
   have e:(w.alloc zero17).heap.size=w.heap.size+1:=by simp
   rw[e]at this
   exact this
 case round =>
  obtain⟨k,hk,rfl,co⟩:=hrel
  by_cases hlt:k<l.length
  ·have hx:=hl k hlt
   have c1:wr.cell? ⟨gl,ol+k,none⟩=some (.int .i64 (nth l k:Nat)):=(co.below.cell (p:=⟨gl,ol+k,none⟩) hg).trans (hc k hlt)
   have c2:=co.cell (nth l k) hx
   have f2:wr.frozen? ⟨w.heap.size+1,nth l k,none⟩=false:=frb co.cod
   have hcn:=ntc (l.take k) (nth l k) hx
   have hcb:nth (cnt (l.take k)) (nth l k)≤320:=by rw[hcn];refine Nat.le_trans List.count_le_length ?_;rw[List.length_take];omega
   have HS:=hide (cns (l.take k) (nth l k) hx)
   have HT:Hid (l.take (k+1)=l.take k++[nth l k]):=by unfold Hid;rw[List.take_succ_eq_append_getElem hlt];simp[nth,hlt]
   clear hcn
   generalize hC:cnt (l.take k)=C at *
   clear hC
   generalize hX:nth l k=X at *
   clear hX
   have hx':(X:Int)<16:=by omega
   go_wp2
   go_roundw
   case rel =>
    refine⟨k+1,by omega,by go_num,?_⟩
    rw[HT.o,HS.o]
    have:=co.set X (nth C X+1) hx
    simpa using this
   case measure=>simp[intOf];omega
  ·obtain rfl:k=l.length:=by omega
   rw[List.take_length]at co
   have c0:=co.cell 0 (by omega)
   have f0:wr.frozen? ⟨w.heap.size+1,0,none⟩=false:=frb co.cod
   have hsz:=co.size
   have hsum:=csl l hl
   have hstart:=cos co
   obtain⟨i0,hi,hz0,hz1,hz2⟩:=info_parts Tryz.infoInt
   clear co hlt hk
   obtain⟨wo,hwo⟩:∃ wo:World,wo=wr:=⟨_,rfl⟩
   subst hwo
   have HL:=hide hl
   have HC:=hide hc
   have HN:=hide (And.intro hn (And.intro hg hsum))
   clear hl hc hn hg hsum
   go_wp2
   go_loopw [7] (fun m wr=>∃ k:Nat,k≤15∧m=.int .i64 ((k:Int)+1)∧Co2 w wr (cz l) (pl (cz l) k) (.slice none 0 0)) (fun m _=>16-(intOf m).toNat)
   case atStart=>exact⟨0,by omega,rfl,hstart⟩
   clear hstart c0 f0
   case round =>
    obtain⟨k,hk,rfl,co⟩:=hrel
    clear hsz
    by_cases hlt:k<15
    ·have hlt':(k:Int)+1≤15:=by omega
     have p0:=co.place k (by omega)
     have p1:=co.place (k+1) (by omega)
     have q0:=co.cell k (by omega)
     have f1:wr.frozen? ⟨w.heap.size+2,k+1,none⟩=false:=frb co.plc
     have hb1:=prm (cz l) k 16 (by omega)
     rw[pra _ (cl l)]at hb1
     have hb2:nth (pl (cz l) k) k≤5120:=by rw[np_ _ _ _ (by omega),if_pos (Nat.le_refl _)];have:=HN.o;omega
     have hb3:nth (cz l) k≤320:=by
      by_cases h0:k=0
      ·subst h0;rw[nc0];omega
      ·rw[nc_0 _ _ (by omega) (by omega)];exact Nat.le_trans List.count_le_length HN.o.1
     have HSTEP:=hide (pl_step (cz l) k hlt (cl l))
     clear hb1
     generalize hA:nth (pl (cz l) k) k=A at *
     generalize hB:nth (cz l) k=Bc at *
     generalize hD:nth (pl (cz l) k) (k+1)=Dd at *
     clear hA hB hD
     go_wp2_with fail
     go_region
     go_wp2
     go_roundw
     case rel =>
      refine⟨k+1,by omega,by go_num,?_⟩
      rw[HSTEP.o]
      have:=(co.setP (k+1) (A+Bc) (by omega)).drew
      simpa using this
     case measure=>simp[intOf];omega
    ·obtain rfl:k=15:=by omega
     have p0:=co.place 15 (by omega)
     have q0:=co.cell 15 (by omega)
     have hAB:nth (pl (cz l) 15) 15+nth (cz l) 15=(cz l).sum:=by
      rw[np_ _ _ _ (by omega),if_pos (Nat.le_refl _),←prs _ _ (by rw[cl];omega),pra _ (cl l)]
     have hN:(cz l).sum≤5120:=by have:=HN.o;omega
     have hB3:=co.size
     obtain⟨wq,hwq⟩:∃ wq:World,wq=wr:=⟨_,rfl⟩
     subst hwq
     have l1:nth (pl (cz l) 15) 15+nth (cz l) 15≤(cz l).sum:=by omega
     have l2:(cz l).sum≤nth (pl (cz l) 15) 15+nth (cz l) 15:=by omega
     clear hAB
     generalize hA:nth (pl (cz l) 15) 15=A at p0 l1 l2
     generalize hB:nth (cz l) 15=Bc at q0 l1 l2
     clear hA hB hlt hk
     generalize hNN:(cz l).sum=N at hN l1 l2
     have HNN:=hide hNN
     clear hNN
     go_wp2_with (at_make;refine wpList_make_full _ rfl _ _ 52 rfl (w.heap.size+3) 3 i0 (.int .i64 0) 1 Tryz.underlying52 hi hz0 hz1 .i64 .i64 _ _ N rfl rfl (by omega) (by omega) (by rw[hz2];omega) (by unfold maxLen;omega) hB3 ?_;intro w1 hown1 hg1;have co1:=co.grown hg1;have k16:=co1.cell16;have f16:w1.frozen? ⟨w.heap.size+1,16,none⟩=false:=frb co1.cod;have hrow:=rm hown1)
     have st:=co1.setV (.slice (some ⟨wq.heap.size,0,none⟩) N N)
     have rw0:(w1.setCell ⟨w.heap.size+1,16,none⟩ (.slice (some ⟨wq.heap.size,0,none⟩) N N)).heap[wq.heap.size]?=some (.cells (ints (List.replicate N 0)).toArray 3 (0,0)):=by
      rw[bsCn _ (by omega)];exact hrow
     have HST:Hid (Co2 w (w1.setCell ⟨w.heap.size+1,16,none⟩ (.slice (some ⟨wq.heap.size,0,none⟩) N N)) (cz l) (fT l 0).1 (.slice (some ⟨wq.heap.size,0,none⟩) N N)∧(w1.setCell ⟨w.heap.size+1,16,none⟩ (.slice (some ⟨wq.heap.size,0,none⟩) N N)).heap[wq.heap.size]?=some (.cells (ints (fT l 0).2).toArray 3 (0,0))):=⟨st,by unfold fT;rw[HNN.o];exact rw0⟩
     clear st rw0 hown1 hg1 co1 k16 f16 hrow co p0 q0 l1 l2
     go_loopw [52] (fun i wr=>∃ k:Nat,k≤l.length∧i=.int .i64 k∧Hid (Co2 w wr (cz l) (fT l k).1 (.slice (some ⟨wq.heap.size,0,none⟩) N N)∧wr.heap[wq.heap.size]?=some (.cells (ints (fT l k).2).toArray 3 (0,0)))) (fun i _=>l.length-(intOf i).toNat)
     case atStart=>exact⟨0,Nat.zero_le _,rfl,HST⟩
     clear HST
     case round =>
      obtain⟨k,hk,rfl,HH⟩:=hrel
      obtain⟨co,hrow⟩:=HH.o
      clear HH
      have hk320:k≤320:=by have:=HN.o;omega
      have hkk:(k:Int)≤320:=by omega
      by_cases hlt:k<l.length
      ·have hx:=HL.o k hlt
       have c1:wr.cell? ⟨gl,ol+k,none⟩=some (.int .i64 (nth l k:Nat)):=(co.below.cell (p:=⟨gl,ol+k,none⟩) HN.o.2.1).trans (HC.o k hlt)
       by_cases h0:0<nth l k
       ·have hlt2:=fTl l HL.o k hlt h0
        obtain⟨_,i2,_⟩:=fTi l HL.o k (by omega)
        rw[HNN.o]at hlt2 i2
        have c2:=co.place (nth l k) hx
        have f2:wr.frozen? ⟨w.heap.size+2,nth l k,none⟩=false:=frb co.plc
        have c3:=co.cell16
        have c4:∃ u,wr.cell? ⟨wq.heap.size,nth (fT l k).1 (nth l k),none⟩=some u:=by
         rw[ceb hrow]
         have:nth (fT l k).1 (nth l k)<(ints (fT l k).2).length:=by simp only[ints,List.length_map];omega
         exact⟨_,by rw[List.getElem?_toArray,List.getElem?_eq_getElem this]⟩
        obtain⟨u4,c4⟩:=c4
        have f4:wr.frozen? ⟨wq.heap.size,nth (fT l k).1 (nth l k),none⟩=false:=frb hrow
        have hstep:fT l (k+1)=((fT l k).1.set (nth l k) (nth (fT l k).1 (nth l k)+1),(fT l k).2.set (nth (fT l k).1 (nth l k)) k):=by
         conv=>lhs;unfold fT
         rw[if_neg (by omega)]
        have HSTEP:=hide hstep
        have hco:=hide (And.intro co hrow)
        clear hstep i2 co hrow
        generalize hP:nth (fT l k).1 (nth l k)=Pp at *
        generalize hX:nth l k=X at *
        clear hP hX
        have hx':(X:Int)<16:=by omega
        have h0':(0:Int)<(X:Int):=by omega
        have hl2:(Pp:Int)<(N:Int):=by omega
        go_wp2_with fail
        go_region
        go_wp2
        go_roundw
        case rel =>
         refine⟨k+1,by omega,by go_num,?_⟩
         rw[HSTEP.o]
         have h1:=(((hco.o.1).other ⟨wq.heap.size,Pp,none⟩ (.int .i64 k) hB3).setP X (Pp+1) hx).drew
         have h2:((wr.setCell ⟨wq.heap.size,Pp,none⟩ (.int .i64 k)).setCell ⟨w.heap.size+2,X,none⟩ (.int .i64 (Pp+1:Nat))).drew.heap[wq.heap.size]?=some (.cells (ints ((fT l k).2.set Pp k)).toArray 3 (0,0)):=by
          show((wr.setCell ⟨wq.heap.size,Pp,none⟩ (.int .i64 k)).setCell ⟨w.heap.size+2,X,none⟩ (.int .i64 (Pp+1:Nat))).heap[wq.heap.size]?=_
          rw[bsCn _ (by omega),bsC _ hco.o.2];simp[ints,List.map_set]
         have:=And.intro h1 h2
         simpa[Hid]using this
        case measure=>simp[intOf];omega
       ·have hz:nth l k=0:=by omega
        have hstep:fT l (k+1)=fT l k:=by
         conv=>lhs;unfold fT
         rw[if_pos hz]
        have HSTEP:=hide hstep
        have hco:=hide (And.intro co hrow)
        rw[hz]at c1
        clear hstep co hrow hz h0 hx
        go_wp2
        go_roundw
        case rel =>
         refine⟨k+1,by omega,by go_num,?_⟩
         rw[HSTEP.o];exact hco.o
        case measure=>simp[intOf];omega
      ·obtain rfl:k=l.length:=by omega
       have hr1:wr.rangeAt (w.heap.size+1) 0 (ints (cz l)++[.slice (some ⟨wq.heap.size,0,none⟩) N N]):=by
        intro j v hv
        rw[Nat.zero_add,ceb co.cod];simpa using hv
       have hlen17:(ints (cz l)++[Value.slice (some ⟨wq.heap.size,0,none⟩) N N]).length=17:=by simp[ints,cl]
       have hi17:(Tryz.prog.info? 162).map (·.size)=some (ints (cz l)++[Value.slice (some ⟨wq.heap.size,0,none⟩) N N]).length:=by rw[hlen17];kernel_rfl
       have ht17:wr.there w.heap.size 0 (ints (cz l)++[Value.slice (some ⟨wq.heap.size,0,none⟩) N N]).toArray.size:=by
        have e:(ints (cz l)++[Value.slice (some ⟨wq.heap.size,0,none⟩) N N]).toArray.size=17:=List.size_toArray.trans hlen17
        rw[e];exact there17 co.res
       have hone:(ints (cz l)++[Value.slice (some ⟨wq.heap.size,0,none⟩) N N]).toArray.all (·.oneCell')=true:=one17 _ _
       have hfin:(wr.setCells w.heap.size 0 (ints (cz l)++[Value.slice (some ⟨wq.heap.size,0,none⟩) N N])).heap[w.heap.size]?=some (.cells (ints (cz l)++[Value.slice (some ⟨wq.heap.size,0,none⟩) N N]).toArray 162 (0,0)):=
        sCw co.res (by rw[hlen17];rfl)
       have hrow2:IntRow (wr.setCells w.heap.size 0 (ints (cz l)++[Value.slice (some ⟨wq.heap.size,0,none⟩) N N])) wq.heap.size (fT l l.length).2:=by
        refine⟨_,_,by rw[sCn _ (by omega)];exact hrow,fun i hi=>?_⟩
        rw[List.getElem?_toArray];exact ig _ _ hi
       have hbel2:Below w.heap.size w (wr.setCells w.heap.size 0 (ints (cz l)++[Value.slice (some ⟨wq.heap.size,0,none⟩) N N])):=sCb _ _ (Nat.le_refl _) _ _ _ _ co.below
       have HF:=hide (And.intro hfin (And.intro hrow2 hbel2))
       clear hfin hrow2 hbel2
       have HCO:=hide (And.intro co hrow)
       have HI:=hide hi17
       have HR1:=hide hr1
       have HT17:=hide ht17
       clear co hrow hi17 hlen17 hr1 ht17
       go_wp2_with (first | (refine wpList_load_mid rfl 162 (.tmp 3) rfl (w.heap.size+1) 0 rfl _ _ HR1.o Tryz.underlying162 rfl HI.o ?_) | (refine wpList_store_mid rfl 162 (.tmp 2) (.tmp 72) rfl w.heap.size 0 _ rfl rfl HT17.o (by rw[List.size_toArray];exact HI.o) hone ?_))
       have hz17:(Tryz.prog.info? 162).map (·.size)=some (ints (cz l)++[Value.slice (some ⟨wq.heap.size,0,none⟩) N N]).toArray.size:=by rw[List.size_toArray];exact HI.o
       refine bodyPost_ret (v:=.agg (ints (cz l)++[Value.slice (some ⟨wq.heap.size,0,none⟩) N N]).toArray) ?_ rfl ⟨wq.heap.size,by rw[HNN.o],HF.o.2.1,HF.o.2.2,by omega⟩
       exact results_cell_row Tryz.results219 _ _ w.heap.size 162 _ _ _ rfl HF.o.1 Tryz.underlying162 rfl hz17
end
end Go.Proofs.YtgkljcmjnphpeaaGreatDoor
