import Derived.Test.YtgkljcmjnphpeaaGreatDoorK10
set_option linter.unusedVariables false
set_option linter.unusedSimpArgs false
set_option maxHeartbeats 4000000
set_option maxRecDepth 100000
namespace Go.Proofs.YtgkljcmjnphpeaaGreatDoor
open Go.RowKit
def Fo.itemOf{k:Nat}(s:ByteArray)(kd:Nat)(V:Node (VT k)):Option (VT k):=
 match Fo.pick s V.keys V.items with
 | [y]=>if kO y=kd then some y else none
 |_=>none
def OneRes(P:Nat→Prop)(k:Nat)(o:Option (VT k))(w:World)(e:Ending)(w':World):Prop:=
 Below w.heap.size w w'∧match o with
  |some y=>∃ x,e=.returned x∧VIn (fun g=>P g∧g<w.heap.size) k w' x y
  |none=>e=gU 4
theorem OneRes.none_{P:Nat→Prop}{k:Nat}{o:Option (VT k)}{w w':World}(b:Below w.heap.size w w')(h:o=none):OneRes P k o w (gU 4) w':=by subst h;exact⟨b,rfl⟩
theorem OneRes.some_{P:Nat→Prop}{k:Nat}{o:Option (VT k)}{y:VT k}{x:Value}{w w':World}(b:Below w.heap.size w w')(h:o=some y)(hx:VIn (fun g=>P g∧g<w.heap.size) k w' x y):OneRes P k o w (.returned x) w':=by subst h;exact⟨b,x,rfl,hx⟩
theorem iOo{P:Nat→Prop}{k:Nat}{w:World}{v:Value}{V:Node (VT k)}(h:VIn P (k+1) w v V)(hl:V.keys.length=V.items.length)(hfew:V.items.length≤200000)(s:ByteArray)(kd:Nat) :
  Calls Tryz.prog 198 #[v,.string s,.int .i64 (kd:Int)] w (OneRes P k (Fo.itemOf s kd V) w):=by
 obtain⟨k0,k1,k2,k3,ja,jl,jc,ka2,kl,kc2,fa2,fl,fc2,hxf⟩:=VIn.form h
 have HC:Hid (∀ W:World,Below w.heap.size w W→Calls Tryz.prog 260 #[v,.string s] W fun e w'=>∃ iv,e=.returned iv∧Vals (fun g=>P g∧g<w.heap.size) k (W.heap.size+1) (Fo.pick s V.keys V.items) w' iv∧Below W.heap.size W w'):=
  fun W b=>(itOo (VIn.keep (k+1) (VIn.mono (Q:=fun g=>P g∧g<w.heap.size) (k+1) h (fun g h1 h2=>⟨h1,h2⟩)) (fun g _ hg=>b.block g hg)) hl hfew s).mono (fun e w' ⟨iv,h1,h2,h3⟩=>⟨iv,h1,h2.mono (fun g h _=>h.1),h3⟩)
 subst hxf
 clear h
 have B2:Hid (Below w.heap.size w ((w.alloc (.cells #[.int .i64 k0,.int .i64 k1,.int .i64 k2,.string k3,.slice ja jl jc,.slice ka2 kl kc2,.slice fa2 fl fc2] 67)).alloc (.cells zero7 67))):=
  ((Below.refl _ _).alloc (Nat.le_refl _) _).alloc (by simp) _
 have HC2:=hide (HC.o _ B2.o)
 unfold zero7 at HC2 B2
 obtain⟨o,ho⟩:∃ o,Fo.itemOf s kd V=o:=⟨_,rfl⟩
 have HO:=hide ho
 unfold Fo.itemOf at HO
 rw[ho]
 obtain⟨Ys,hYs⟩:∃ Ys,Fo.pick s V.keys V.items=Ys:=⟨_,rfl⟩
 rw[hYs]at HO HC2
 clear ho hYs hl hfew HC
 go_enter Tryz.func198,Tryz.ntmps198
 go_wp2_with fail
 refine HC2.o.mono ?_
 rintro e w2 ⟨iv,rfl,hv,b2⟩
 have hrb:w2.heap[w.heap.size+1]?=some (.cells zero7 67 (0,0)):=by
  rw[b2.block _ (by simp)]
  have:=bln (w.alloc (.cells #[.int .i64 k0,.int .i64 k1,.int .i64 k2,.string k3,.slice ja jl jc,.slice ka2 kl kc2,.slice fa2 fl fc2] 67)) (.cells zero7 67)
  rw[World.size_alloc]at this
  exact this
 have BB:=hide (B2.o.trans (b2.mono (by simp;omega)))
 have HV:=hide hv
 have hgs:((w.alloc (.cells #[.int .i64 k0,.int .i64 k1,.int .i64 k2,.string k3,.slice ja jl jc,.slice ka2 kl kc2,.slice fa2 fl fc2] 67)).alloc (.cells #[.int .i64 0,.int .i64 0,.int .i64 0,.string { data:=#[] },.slice none 0 0,.slice none 0 0,.slice none 0 0] 67)).heap.size=w.heap.size+1+1:=by simp
 rw[hgs]at HV
 clear HC2 b2 hv B2 hgs
 obtain⟨rb,hRB⟩:∃ rb,w.heap.size+1=rb:=⟨_,rfl⟩
 rw[hRB]at hrb HV
 rw[hRB]
 have HRB:=hide hRB
 clear hRB
 obtain⟨ia,ic,rfl⟩:=HV.o.len
 match Ys,HO,HV with
 | [],HO,HV =>
  go_wp2_with fail
  refine(sn _).mono ?_
  rintro e w' ⟨rfl,rfl⟩
  exact⟨rfl,.none_ BB.o (by rw[←HO.o])⟩
 |y1::y2::Ys,HO,HV =>
  have t1:((((y1::y2::Ys).length:Nat):Int)==1)=false:=by simp;omega
  have t2:¬ (y1::y2::Ys).length=1:=by simp
  generalize (y1::y2::Ys).length=nn at *
  go_wp2_with fail
  refine(sn _).mono ?_
  rintro e w' ⟨rfl,rfl⟩
  exact⟨rfl,.none_ BB.o (by rw[←HO.o])⟩
 | [y],HO,HV =>
  obtain⟨g,c,x,hge,hgb,hc1,hx,hxc⟩:=HV.o.at (i:=0) (y:=y) rfl
  cases hge
  simp only[]at HO
  have HX:=hide hx
  obtain⟨pp,ja2,jl2,jc2,ka3,kl3,kc3,fa3,fl3,fc3,rfl⟩:=VIn.form2 hx
  have hN:∀ j u,([.int .i64 (kO y:Int),.int .i64 (nOf y),.int .i64 (pp:Int),.string (strN (tO y)),.slice ja2 jl2 jc2,.slice ka3 kl3 kc3,.slice fa3 fl3 fc3]:List Value)[j]?=some u→w2.cell? ⟨g,j,none⟩=some u:=fun j u h=>by
   have:=hxc j u h
   rwa [Nat.zero_mul,Nat.zero_add]at this
  have d0:=hN 0 _ rfl
  have d1:=hN 1 _ rfl
  have d2:=hN 2 _ rfl
  have d3:=hN 3 _ rfl
  have d4:=hN 4 _ rfl
  have d5:=hN 5 _ rfl
  have d6:=hN 6 _ rfl
  clear hN hx hxc hgb HV
  generalize nOf y=ny at *
  generalize strN (tO y)=ty at *
  by_cases hk:kO y=kd
  ·have t1:((kO y:Int)==(kd:Int))=true:=by simp;omega
   rw[if_pos hk]at HO
   have r0:w2.cell? ⟨rb,0,none⟩=some (.int .i64 0):=ceb hrb
   have r1:w2.cell? ⟨rb,1,none⟩=some (.int .i64 0):=ceb hrb
   have r2:w2.cell? ⟨rb,2,none⟩=some (.int .i64 0):=ceb hrb
   have r3:w2.cell? ⟨rb,3,none⟩=some (.string { data:=#[] }):=ceb hrb
   have r4:w2.cell? ⟨rb,4,none⟩=some (.slice none 0 0):=ceb hrb
   have r5:w2.cell? ⟨rb,5,none⟩=some (.slice none 0 0):=ceb hrb
   have r6:w2.cell? ⟨rb,6,none⟩=some (.slice none 0 0):=ceb hrb
   have f0:w2.frozen? ⟨rb,0,none⟩=false:=frb hrb
   have f1:w2.frozen? ⟨rb,1,none⟩=false:=frb hrb
   have f2:w2.frozen? ⟨rb,2,none⟩=false:=frb hrb
   have f3:w2.frozen? ⟨rb,3,none⟩=false:=frb hrb
   have f4:w2.frozen? ⟨rb,4,none⟩=false:=frb hrb
   have f5:w2.frozen? ⟨rb,5,none⟩=false:=frb hrb
   have f6:w2.frozen? ⟨rb,6,none⟩=false:=frb hrb
   have HZ:=hide hrb
   generalize (kO y:Int)=ky at *
   clear hrb hk
   go_wp2_with fail
   refine(smy _).mono ?_
   rintro e w' ⟨rfl,hww⟩
   subst hww
   go_wp2
   refine bodyPost_ret (v:=.agg #[.int .i64 ky,.int .i64 ny,.int .i64 pp,.string ty,.slice ja2 jl2 jc2,.slice ka3 kl3 kc3,.slice fa3 fl3 fc3]) ?_ rfl ?_
   ·exact results_cell_row Tryz.results198 _ _ (rb) 67 _ _ _ rfl (set7 HZ.o _ _ _ _ _ _ _) Tryz.underlying67 rfl (by kernel_rfl)
   exact .some_ (BB.o.trans ((only7 w' rb _ _ _ _ _ _ _).below (by have:=BB.o.size;omega) (by have:=HRB.o;omega))) HO.o.symm (VIn.keep k HX.o (fun g2 hg2 hg3=>(only7 w' rb _ _ _ _ _ _ _).block g2 hg3 (by have:=hg2.2;have:=HRB.o;omega)))
  ·have t1:((kO y:Int)==(kd:Int))=false:=by simp;omega
   rw[if_neg hk]at HO
   generalize (kO y:Int)=ky at *
   clear hrb hk
   go_wp2_with fail
   refine(sn _).mono ?_
   rintro e w' ⟨rfl,rfl⟩
   exact⟨rfl,.none_ BB.o (by rw[←HO.o])⟩
section
namespace Fo
def dec(n:Nat):List Nat:=(Lib.decDigits n).map UInt8.toNat
def padded(n:Nat):List Nat:=List.replicate (10-(dec n).length) 48++dec n
def tableLine(s r:List Nat):Option (List Nat):=match takes s r with
 |none=>none
 |some q=>(takes [32,10] q).or (takes [13,10] q)
def tableLines:List Nat→List Nat→Option (List Nat)
 | [],r=>some r
 |p::ps,r=>match tableLine (padded p++[32,48,48,48,48,48,32,110]) r with
  |none=>none
  |some q=>tableLines ps q
def crossTable(n:Nat)(ps r:List Nat):Option (List Nat):=match takes ([120,114,101,102,10,48,32]++dec (n+1)++[10]) r with
 |none=>none
 |some q=>match tableLine [48,48,48,48,48,48,48,48,48,48,32,54,53,53,51,53,32,102] q with
  |none=>none
  |some q=>tableLines ps q
end Fo
theorem Tryz.gPow : Tryz.prog.globalNamed "internal/strconv.uint64pow10" = some 0:=by kernel_rfl
structure Env(B:Nat)(w:World):Prop where
 err:ErrW B w
 pow:Lib.TabIs Tryz.prog w "internal/strconv.uint64pow10" .u64 Lib.pow10Tab
 lp : 0<B
variable{B bs cap:Nat}{ao:Option Addr}{data:List Nat}{x2 x3 x4:Value}{w w':World}{r q:List Nat}
theorem Env.only(h:Env B w)(hb:B≤bs)(hw:B≤w.heap.size)(k:Only bs w w'):Env B w':=by
 have h1:=h.lp
 refine⟨h.err.only hb hw k,?_,h.lp⟩
 have:=h.pow
 unfold Lib.TabIs World.var? at this ⊢
 rw[Tryz.gPow]at this ⊢
 simp only[Option.bind_some]at this ⊢
 rw[k.block _ (Nat.lt_of_lt_of_le h1 hw) (Nat.ne_of_lt (Nat.lt_of_lt_of_le h1 hb))]
 exact this
theorem Sc.env(h:Sc B bs ao cap data x2 x3 x4 w r):B≤w.heap.size:=Nat.le_of_lt (Nat.lt_of_le_of_lt h.hb h.lt)
theorem bg(w:World)(k:Nat)(os:Array Obj):Below w.heap.size w (Sort.grow (w.drewN k) os):=
 ⟨rfl,rfl,rfl,by simp[Sort.grow],fun i hi=>by simp[Sort.grow,Array.getElem?_append,hi]⟩
theorem sNd(n:Nat):strN (Fo.dec n)=⟨(Lib.decDigits n).toArray⟩:=by
 unfold strN Fo.dec
 congr 2
 rw[List.map_map]
 conv=>rhs;rw[←List.map_id (Lib.decDigits n)]
 exact List.map_congr_left (fun x _=>by simp)
theorem io(h:Env B w)(hw:B≤w.heap.size)(n:Nat)(hn:n≤9223372036854775807) :
  Calls Tryz.prog 97 #[.int .i64 (n:Int)] w fun e w'=>e=.returned (.string (strN (Fo.dec n)))∧Below w.heap.size w w':=by
 refine(Tryz.strconv_Itoa n (by omega) (by omega) w h.pow).mono ?_
 rintro e w' ⟨rfl,k,os,rfl⟩
 refine⟨?_,bg w k os⟩
 rw[sNd]
 unfold Lib.itoa
 rw[if_neg (by omega)]
 rfl
theorem del:∀(k n:Nat),n<10^(k+1)→(Fo.dec n).length≤k+1
 |0,n,h=>by
  unfold Fo.dec
  rw[Lib.decDigits,dif_pos (by simpa using h)]
  simp
 |k+1,n,h=>by
  have ih:=del k (n/10) (by rw[Nat.div_lt_iff_lt_mul (by decide)];rw[Nat.pow_succ]at h;exact h)
  unfold Fo.dec at ih ⊢
  rw[Lib.decDigits]
  split
  ·simp
  ·rw[List.length_map]at ih ⊢
   rw[List.length_append,List.length_singleton]
   omega
theorem sNa(a b:List Nat):strN (a++b)=strN a++strN b:=by
 unfold strN
 rw[List.map_append]
 apply ByteArray.ext
 simp
theorem sNs(a:List Nat):(strN a).size=a.length:=by unfold strN;simp[ByteArray.size]
theorem sNr(n:Nat):strN (List.replicate n 48)=⟨(Lib.repeatL [48] n).toArray⟩:=by
 unfold strN
 congr 2
 induction n with
 |zero=>rfl
 |succ n ih=>rw[List.replicate_succ,List.map_cons,ih];rfl
theorem po0(h:Env B w)(hw:B≤w.heap.size)(n:Nat)(hn:n≤200000) :
  Calls Tryz.prog 133 #[.int .i64 (n:Int),.int .i64 10] w fun e w'=>e=.returned (.string (strN (Fo.padded n)))∧Below w.heap.size w w':=by
 have HI:=hide (io h hw n (by omega))
 have hl:(Fo.dec n).length≤10:=Nat.le_trans (del 5 n (by omega)) (by decide)
 have hsz:(strN (Fo.dec n)).size=(Fo.dec n).length:=sNs _
 have HP:Hid (strN (Fo.padded n)=⟨(Lib.repeatL [48] (10-(Fo.dec n).length)).toArray⟩++strN (Fo.dec n)):=by
  unfold Hid Fo.padded
  rw[sNa,sNr]
 generalize strN (Fo.dec n)=S at *
 generalize (Fo.dec n).length=l at *
 generalize strN (Fo.padded n)=T at *
 have hmx:max (0:Int) (10-(S.size:Int))=((10-l:Nat):Int):=by omega
 have hmw:IntKind.i64.wrap (10-(S.size:Int))=((10-l:Nat):Int):=by rw[IntKind.wrap_i64];omega
 clear h
 go_enter Tryz.func133,Tryz.ntmps133
 go_wp2_with fail
 refine HI.o.mono ?_
 rintro e w1 ⟨rfl,b1⟩
 have B1:=hide b1
 clear b1 HI
 go_wp2_with fail
 rw[show max (0:Int) (10-(l:Int))=((10-l:Nat):Int)by omega]
 refine(Tryz.strings_Repeat { data:=#[48] } (10-l) _ (by omega) (by simp[ByteArray.size];omega)).mono ?_
 rintro e w2 ⟨he,b2⟩
 obtain⟨Rp,hRp⟩:∃ Rp:ByteArray,⟨(Lib.repeatL [48] (10-l)).toArray⟩=Rp:=⟨_,rfl⟩
 have hrs:Rp.size≤10:=by
  rw[←hRp]
  simp[ByteArray.size,Lib.repeatL_length]
 rw[show({ data:=#[48] }:ByteArray).data.toList=[48]from rfl,hRp]at he
 rw[hRp]at HP
 subst he
 have B2:=hide (B1.o.trans (b2.mono B1.o.size))
 have hcat:¬ 9223372036854775807<Rp.size+S.size:=by omega
 clear b2 B1 hRp
 go_wp2
 go_ret
 exact⟨by rw[HP.o];rfl,B2.o⟩
def SkRes(B bs:Nat)(ao:Option Addr)(cap:Nat)(data:List Nat)(x2 x3 x4:Value)(o:Option (List Nat))(w:World)(e:Ending)(w':World):Prop:=
 match o with
 |some q=>e=.returned (.tuple #[])∧Sc B bs ao cap data x2 x3 x4 w' q∧Only bs w w'
 |none=>e=gU 4∧Only bs w w'
theorem SkRes.none_{o:Option (List Nat)}(h:o=none)(k:Only bs w w'):SkRes B bs ao cap data x2 x3 x4 o w (gU 4) w':=by subst h;exact⟨rfl,k⟩
theorem SkRes.some_{o:Option (List Nat)}(h:o=some q)(hs:Sc B bs ao cap data x2 x3 x4 w' q)(k:Only bs w w'):SkRes B bs ao cap data x2 x3 x4 o w (.returned (.tuple #[])) w':=by subst h;exact⟨rfl,hs,k⟩
theorem tLo(h:Sc B bs ao cap data x2 x3 x4 w r)(s:ByteArray)(h0:0<s.size)(hs:s.size≤1000000) :
  Calls Tryz.prog 195 #[.pointer (some ⟨bs,0,none⟩),.string s] w (SkRes B bs ao cap data x2 x3 x4 (Fo.tableLine (bl s) r) w):=by
 have H1:=hide (sto h s h0 hs)
 obtain⟨R,hR⟩:∃ R,Fo.tableLine (bl s) r=R:=⟨_,rfl⟩
 rw[hR]
 have HR:=hide hR
 unfold Fo.tableLine at HR
 clear h hR h0 hs
 cases e1:Fo.takes (bl s) r with
 |none =>
  rw[e1]at H1 HR
  go_enter Tryz.func195,Tryz.ntmps195
  go_wp2_with fail
  refine H1.o.mono ?_
  rintro e w1 ⟨rfl,h1,k1⟩
  go_wp2_with fail
  refine(sn _).mono ?_
  rintro e w' ⟨rfl,rfl⟩
  exact⟨rfl,.none_ HR.o.symm k1⟩
 |some q =>
  rw[e1]at H1 HR
  simp only[]at HR
  go_enter Tryz.func195,Tryz.ntmps195
  go_wp2_with fail
  refine H1.o.mono ?_
  rintro e w1 ⟨rfl,h1,k1⟩
  have H2:=hide (sto (show Sc B bs ao cap data x2 x3 x4 w1 q from h1) { data:=#[32,10] } (by decide) (by decide))
  rw[show bl { data:=#[32,10] }=[32,10]from rfl]at H2
  have K1:=hide k1
  clear h1 k1 H1
  go_wp2_with fail
  refine(smy _).mono ?_
  rintro e w' ⟨rfl,hw⟩
  subst hw
  cases e2:Fo.takes [32,10] q with
  |some q2 =>
   rw[e2]at H2 HR
   go_wp2_with fail
   refine H2.o.mono ?_
   rintro e w2 ⟨rfl,h2,k2⟩
   have H3:=hide h2
   have K2:=hide (K1.o.trans k2)
   clear h2 k2
   go_wp2_with fail
   refine(smy _).mono ?_
   rintro e w' ⟨rfl,hw⟩
   subst hw
   go_wp2
   go_end0
   exact .some_ HR.o.symm H3.o K2.o
  |none =>
   rw[e2]at H2 HR
   go_wp2_with fail
   refine H2.o.mono ?_
   rintro e w2 ⟨rfl,h2,k2⟩
   have H3:=hide (sto (show Sc B bs ao cap data x2 x3 x4 w2 q from h2) { data:=#[13,10] } (by decide) (by decide))
   rw[show bl { data:=#[13,10] }=[13,10]from rfl]at H3
   have K2:=hide (K1.o.trans k2)
   clear h2 k2
   cases e3:Fo.takes [13,10] q with
   |some q3 =>
    rw[e3]at H3 HR
    go_wp2_with fail
    refine H3.o.mono ?_
    rintro e w3 ⟨rfl,h3,k3⟩
    have H4:=hide h3
    have K3:=hide (K2.o.trans k3)
    clear h3 k3
    go_wp2_with fail
    refine(smy _).mono ?_
    rintro e w' ⟨rfl,hw⟩
    subst hw
    go_wp2
    go_end0
    exact .some_ HR.o.symm H4.o K3.o
   |none =>
    rw[e3]at H3 HR
    go_wp2_with fail
    refine H3.o.mono ?_
    rintro e w3 ⟨rfl,h3,k3⟩
    have K3:=hide (K2.o.trans k3)
    clear h3 k3
    go_wp2_with fail
    refine(sn _).mono ?_
    rintro e w' ⟨rfl,rfl⟩
    exact⟨rfl,.none_ HR.o.symm K3.o⟩
theorem fo(h:Sc B bs ao cap data x2 x3 x4 w r){oa:Option Addr}{n oc:Nat}(hx:x2=.slice oa n oc)(hn:n≤200000) :
  Calls Tryz.prog 194 #[.pointer (some ⟨bs,0,none⟩)] w fun e w'=>e=.returned (.int .i64 (n+1:Nat))∧∃ m,w'=w.drewN m:=by
 subst hx
 have c2:w.cell? ⟨bs,2,none⟩=some (.slice oa n oc):=ceb h.blk
 have hw:IntKind.i64.wrap ((n:Int)+1)=((n+1:Nat):Int):=by rw[IntKind.wrap_i64];omega
 clear h
 go_enter Tryz.func194,Tryz.ntmps194
 go_wp2
 go_ret
 exact⟨by first | rfl | (rw[hw]),0,rfl⟩
end
section
variable{B bs cap:Nat}{ao:Option Addr}{data:List Nat}{x2 x3 x4:Value}{w w':World}{r q:List Nat}
theorem Only.drew{b:Nat}(w:World):Only b w w.drew:=.of_below (Below.refl _ _).drew
theorem deb(n:Nat):∀ x∈Fo.dec n,x<256:=by
 intro x hx
 obtain⟨u,_,rfl⟩:=List.mem_map.1 hx
 exact u.toNat_lt
theorem pb(n:Nat):∀ x∈Fo.padded n,x<256:=by
 intro x hx
 rcases List.mem_append.1 hx with h | h
 ·rw[(List.mem_replicate.1 h).2];decide
 ·exact deb n x h
theorem Fo.tableLines_none(ps:List Nat)(p:Nat)(r:List Nat)(h:Fo.tableLine (Fo.padded p++[32,48,48,48,48,48,32,110]) r=none):Fo.tableLines (p::ps) r=none:=by
 rw[Fo.tableLines,h]
theorem Fo.tableLines_some(ps:List Nat)(p:Nat)(r q:List Nat)(h:Fo.tableLine (Fo.padded p++[32,48,48,48,48,48,32,110]) r=some q):Fo.tableLines (p::ps) r=Fo.tableLines ps q:=by
 rw[Fo.tableLines,h]
theorem cTo(he:Env B w)(h:Sc B bs ao cap data x2 x3 x4 w r){oa:Option Addr}{n oc:Nat}(hx:x2=.slice oa n oc)(hn:n≤200000)
  {ps:List Nat} {b:Nat} (hps:∀ p∈ps,p≤200000) (hpn:ps.length≤200000) (hown:w.ownsRow b 3 1 x4 ps.length (ps.map fun p:Nat=>.int .i64 (p:Int))) (hbs:bs<b) :
  Calls Tryz.prog 140 #[.pointer (some ⟨bs,0,none⟩)] w (SkRes B bs ao cap data x2 x3 x4 (Fo.crossTable n ps r) w):=by
 have hBw:=h.env
 have HS:=hide h
 obtain⟨N,hN⟩:∃ N,n+1=N:=⟨_,rfl⟩
 have HZ:=hide (fo h.drew hx hn)
 rw[hN]at HZ
 have HE:=hide he
 have HOW:=hide hown
 obtain⟨pa,pc,hx4⟩:=ows hown
 obtain⟨R,hR⟩:∃ R,Fo.crossTable n ps r=R:=⟨_,rfl⟩
 rw[hR]
 have HR:=hide hR
 unfold Fo.crossTable at HR
 rw[hN]at HR
 have hNl:N≤200001:=by omega
 clear h he hown hR
 go_enter Tryz.func140,Tryz.ntmps140
 go_wp2_with fail
 refine wrT (fun _ _=>True) (by kernel_rfl) ?_
 intro hD
 have hS:=hide (show True from trivial)
 refine ti 0 ?_ hD hS ?_
 clear hD hS;intro hD hS;(try simp only[putL])
 refine ti 1 ?_ hD hS ?_
 clear hD hS;intro hD hS;(try simp only[putL])
 refine ti 2 ?_ hD hS ?_
 clear hD hS;intro hD hS;(try simp only[putL])
 refine ti 3 ?_ hD hS ?_
 clear hD hS;intro hD hS;(try simp only[putL])
 refine on 4 hD fun K' hK=>?_
 go_simp
 refine HZ.o.mono ?_
 rintro e w1 ⟨rfl,m1,hw1⟩
 have b1:Below w.drew.heap.size w.drew w1:=by rw[hw1];exact bdN _ _
 clear hw1
 have HS1:=hide (HS.o.drew.other b1)
 have HO1:Hid (Only bs w w1):=(Only.drew w).trans (.of_below b1)
 clear b1 HZ
 refine hK.o _ _ trivial (fun hD2 hS2=>?_)
 clear hD hS hK K'
 have hD:=hD2
 have hS:=hS2
 clear hD2 hS2
 (try simp only[putL])
 refine on 5 hD fun K' hK=>?_
 go_simp
 have HE1:=hide (HE.o.only HS.o.hb hBw HO1.o)
 refine(io HE1.o HS1.o.env N (by omega)).mono ?_
 rintro e w2 ⟨rfl,b2⟩
 have HS2:=hide (HS1.o.other b2)
 have HO2:=hide (HO1.o.trans (.of_below b2))
 clear b2 HO1 HS1 HE1
 obtain⟨D,hD2⟩:∃ D,strN (Fo.dec N)=D:=⟨_,rfl⟩
 have hDl:D.size≤10:=by rw[←hD2,sNs];exact Nat.le_trans (del 5 N (by omega)) (by decide)
 have HDB:Hid (bl D=Fo.dec N):=by unfold Hid;rw[←hD2,bsN _ (deb _)]
 rw[hD2]
 clear hD2
 refine hK.o _ _ trivial (fun hD2 hS2=>?_)
 clear hD hS hK K'
 have hD:=hD2
 have hS:=hS2
 clear hD2 hS2
 (try simp only[putL])
 have hc1:¬ 9223372036854775807<7+D.size:=by omega
 obtain⟨X,hX⟩:∃ X:ByteArray,{ data:=#[120,114,101,102,10,48,32] }++D=X:=⟨_,rfl⟩
 have hXl:X.size≤17:=by rw[←hX,ByteArray.size_append,show({ data:=#[120,114,101,102,10,48,32] }:ByteArray).size=7 from rfl];omega
 have HXB:Hid (bl X=[120,114,101,102,10,48,32]++Fo.dec N):=by unfold Hid;rw[←hX,ba_,HDB.o];rfl
 refine on 6 hD fun K' hK=>?_
 go_simp
 try rw[hX]
 clear hX HDB hc1
 refine hK.o _ _ trivial (fun hD2 hS2=>?_)
 clear hD hS hK K'
 have hD:=hD2
 have hS:=hS2
 clear hD2 hS2
 (try simp only[putL])
 have hc2:¬ 9223372036854775807<X.size+1:=by omega
 obtain⟨Y,hY⟩:∃ Y:ByteArray,X++{ data:=#[10] }=Y:=⟨_,rfl⟩
 have hYl:Y.size≤18∧0<Y.size:=by rw[←hY,ByteArray.size_append,show({ data:=#[10] }:ByteArray).size=1 from rfl];omega
 have HYB:Hid (bl Y=[120,114,101,102,10,48,32]++Fo.dec N++[10]):=by unfold Hid;rw[←hY,ba_,HXB.o];rfl
 refine on 7 hD fun K' hK=>?_
 go_simp
 try rw[hY]
 clear hY HXB hc2
 refine hK.o _ _ trivial (fun hD2 hS2=>?_)
 clear hD hS hK K'
 have hD:=hD2
 have hS:=hS2
 clear hD2 hS2
 (try simp only[putL])
 have HT:=hide (sto HS2.o Y hYl.2 (by omega))
 rw[HYB.o]at HT
 clear HYB
 cases e1:Fo.takes ([120,114,101,102,10,48,32]++Fo.dec N++[10]) r with
 |none =>
  rw[e1]at HT HR
  refine on 8 hD fun K' hK=>?_
  go_simp
  refine HT.o.mono ?_
  rintro e w3 ⟨rfl,h3,k3⟩
  have K3:=hide (HO2.o.trans k3)
  clear h3 k3
  refine hK.o _ _ trivial (fun hD2 hS2=>?_)
  clear hD hS hK K'
  have hD:=hD2
  have hS:=hS2
  clear hD2 hS2
  (try simp only[putL])
  refine on 9 hD fun K' hK=>?_
  go_simp
  refine(sn _).mono ?_
  rintro e w' ⟨rfl,rfl⟩
  exact⟨rfl,.none_ HR.o.symm K3.o⟩
 |some q =>
  rw[e1]at HT HR
  simp only[]at HR
  refine on 8 hD fun K' hK=>?_
  go_simp
  refine HT.o.mono ?_
  rintro e w3 ⟨rfl,h3,k3⟩
  have HS3:=hide (show Sc B bs ao cap data x2 x3 x4 w3 q from h3)
  have HO3:=hide (HO2.o.trans k3)
  clear h3 k3 HO2 HS2
  refine hK.o _ _ trivial (fun hD2 hS2=>?_)
  clear hD hS hK K'
  have hD:=hD2
  have hS:=hS2
  clear hD2 hS2
  (try simp only[putL])
  refine on 9 hD fun K' hK=>?_
  go_simp
  refine(smy _).mono ?_
  rintro e w' ⟨rfl,hw⟩
  subst hw
  refine hK.o _ _ trivial (fun hD2 hS2=>?_)
  clear hD hS hK K'
  have hD:=hD2
  have hS:=hS2
  clear hD2 hS2
  (try simp only[putL])
  refine wATd (by kernel_rfl) ?_ _
  clear hD hS
  have HT2:=hide (tLo HS3.o { data:=#[48,48,48,48,48,48,48,48,48,48,32,54,53,53,51,53,32,102] } (by decide) (by decide))
  rw[show bl { data:=#[48,48,48,48,48,48,48,48,48,48,32,54,53,53,51,53,32,102] }=[48,48,48,48,48,48,48,48,48,48,32,54,53,53,51,53,32,102]from rfl]at HT2
  clear HT
  cases e2:Fo.tableLine [48,48,48,48,48,48,48,48,48,48,32,54,53,53,51,53,32,102] q with
  |none =>
   rw[e2]at HT2 HR
   go_wp2_with fail
   refine HT2.o.mono ?_
   rintro e w4 ⟨rfl,k4⟩
   exact⟨rfl,.none_ HR.o.symm (HO3.o.trans k4)⟩
  |some q2 =>
   rw[e2]at HT2 HR
   simp only[]at HR
   go_wp2_with fail
   refine HT2.o.mono ?_
   rintro e w4 ⟨rfl,h4,k4⟩
   have HO4:=hide (HO3.o.trans k4)
   have HS4:=hide h4
   have c4:w4.cell? ⟨bs,4,none⟩=some x4:=ceb h4.blk
   rw[hx4]at c4
   have HX4:=hide hx4
   obtain⟨L,hL⟩:∃ L,ps.length=L:=⟨_,rfl⟩
   rw[hL]at c4 hpn
   have HL:=hide hL
   clear h4 k4 HO3 HS3 HT2 hx4 hL
   go_wp2
   clear c4
   go_loopw [21] (fun i wr=>∃(k:Nat) (q:List Nat),k≤L∧i=.int .i64 k∧Hid (Sc B bs ao cap data x2 x3 x4 wr q)∧Hid (Only bs w wr)∧Hid (Fo.tableLines (ps.drop k) q=R)) (fun i _=>L-(intOf i).toNat)
   case atStart=>exact⟨0,q2,Nat.zero_le _,rfl,HS4,HO4,HR⟩
   clear HS4 HO4 HR
   case round =>
    obtain⟨k,q,hk,rfl,HS5,HO5,HR⟩:=hrel
    rcases Nat.eq_or_lt_of_le hk with hk | hk
    ·subst hk
     rw[←HL.o,List.drop_length]at HR
     go_wp2
     go_end0
     exact .some_ HR.o.symm HS5.o HO5.o
    ·obtain⟨p,hp⟩:∃ p,ps[k]?=some p:=⟨_,List.getElem?_eq_getElem (by rw[HL.o];exact hk)⟩
     have hpp:p≤200000:=hps p (List.mem_of_getElem? hp)
     have hdr:ps.drop k=p::ps.drop (k+1):=by rw[List.drop_eq_getElem_cons (by rw[HL.o];exact hk)];congr 1;rw[List.getElem?_eq_getElem (by rw[HL.o];exact hk)]at hp;simpa using hp
     rw[hdr]at HR
     have own5:=owo HOW.o HO5.o hbs
     obtain⟨g,c,hge,hgc⟩:=ro own5 (show(ps.map fun p:Nat=>Value.int .i64 (p:Int))[k]?=some (.int .i64 (p:Int))by rw[List.getElem?_map,hp];rfl)
     rw[HX4.o,HL.o]at hge
     cases hge
     have HE5:=hide (HE.o.only HS.o.hb hBw HO5.o)
     have HP5:=hide (po0 HE5.o HS5.o.env p hpp)
     obtain⟨D2,hD2⟩:∃ D2,strN (Fo.padded p)=D2:=⟨_,rfl⟩
     have hDs:D2.size≤10:=by
      rw[←hD2,sNs,Fo.padded,List.length_append,List.length_replicate]
      have:=del 5 p (by omega)
      omega
     have HDB2:Hid (bl D2=Fo.padded p):=by unfold Hid;rw[←hD2,bsN _ (pb _)]
     rw[hD2]at HP5
     have hc3:¬ 9223372036854775807<D2.size+8:=by omega
     obtain⟨Z,hZ⟩:∃ Z:ByteArray,D2++{ data:=#[32,48,48,48,48,48,32,110] }=Z:=⟨_,rfl⟩
     have hZl:Z.size≤18∧0<Z.size:=by rw[←hZ,ByteArray.size_append,show({ data:=#[32,48,48,48,48,48,32,110] }:ByteArray).size=8 from rfl];omega
     have HZB:Hid (bl Z=Fo.padded p++[32,48,48,48,48,48,32,110]):=by unfold Hid;rw[←hZ,ba_,HDB2.o];rfl
     clear hdr own5 hD2 HDB2 HE5 hp
     go_wp2_with fail
     refine HP5.o.mono ?_
     rintro e w6 ⟨rfl,b6⟩
     have HS6:=hide (HS5.o.other b6)
     have HO6:=hide (HO5.o.trans (.of_below b6))
     have HT6:=hide (tLo HS6.o Z hZl.2 (by omega))
     rw[HZB.o]at HT6
     clear b6 HP5 hgc
     cases e3:Fo.tableLine (Fo.padded p++[32,48,48,48,48,48,32,110]) q with
     |none =>
      rw[e3]at HT6
      rw[Fo.tableLines_none _ _ _ e3]at HR
      clear e3
      go_wp2_with fail
      try rw[hZ]
      refine HT6.o.mono ?_
      rintro e w7 ⟨rfl,k7⟩
      exact⟨rfl,.none_ HR.o.symm (HO6.o.trans k7)⟩
     |some q3 =>
      rw[e3]at HT6
      rw[Fo.tableLines_some _ _ _ _ e3]at HR
      clear e3
      go_wp2_with fail
      try rw[hZ]
      refine HT6.o.mono ?_
      rintro e w7 ⟨rfl,h7,k7⟩
      have HS7:=hide h7
      have HO7:=hide (HO6.o.trans k7)
      clear h7 k7 hZ hc3
      go_wp2
      go_roundw
      case rel=>exact⟨k+1,q3,by omega,by first | rfl | (congr 1),HS7,HO7,HR⟩
      case measure=>simp[intOf];omega
end
end Go.Proofs.YtgkljcmjnphpeaaGreatDoor
