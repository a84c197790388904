import Derived.Test.YtgkljcmjnphpeaaGreatDoorK20
set_option linter.unusedVariables false
set_option linter.unusedSimpArgs false
set_option maxHeartbeats 8000000
set_option maxRecDepth 100000
namespace Go.Proofs.YtgkljcmjnphpeaaGreatDoor
open Go.RowKit
section
variable{w w':World}{w0:World}{B bs cap:Nat}{ao:Option Addr}{data q:List Nat}{ov pv lv:Value}{vs:List Value}{Vs:List (VT 12)}{ps:List Value}{Ps:List (List Nat)}{pls:List Nat}
theorem iB:(Tryz.prog.info? 23).map (fun i=>(i.zero,i.size,i.bytes))=some (some (.slice none 0 0),1,24):=by kernel_rfl
def SC1(a:Addr)(va:Value)(L:Array Bool)(W:World):Prop:=W.cell? a=some va
def FiAny(w0:World)(B bs:Nat)(ao:Option Addr)(cap:Nat)(data:List Nat)(w:World)(q:List Nat)(Vs:List (VT 12))(Ps:List (List Nat))(pls:List Nat):Prop:=
 ∃ ov pv lv vs ps,Fi w0 B bs ao cap data w q ov pv lv vs Vs ps Ps pls
def ObRes(w0:World)(B bs:Nat)(ao:Option Addr)(cap:Nat)(data:List Nat)(Vs:List (VT 12))(Ps:List (List Nat))(pls:List Nat)(p:Nat)(o:Option ((VT 12 × List Nat) × List Nat))(e:Ending)(w':World):Prop:=
 match o with
 |some (x,q)=>e=.returned (.tuple #[])∧FiAny w0 B bs ao cap data w' q (Vs++[x.1]) (Ps++[x.2]) (pls++[p])
 |none=>e=gU 4∧Only bs w0 w'
theorem ObRes.none_{p:Nat}{o:Option ((VT 12 × List Nat) × List Nat)}(h:o=none)(k:Only bs w0 w'):ObRes w0 B bs ao cap data Vs Ps pls p o (gU 4) w':=by subst h;exact⟨rfl,k⟩
theorem Sc.c4{x2 x3 x4:Value}{r:List Nat}(h:Sc B bs ao cap data x2 x3 x4 w r):w.cell? ⟨bs,4,none⟩=some x4:=ceb h.blk
theorem Sc.c2{x2 x3 x4:Value}{r:List Nat}(h:Sc B bs ao cap data x2 x3 x4 w r):w.cell? ⟨bs,2,none⟩=some x2:=ceb h.blk
theorem Sc.c3{x2 x3 x4:Value}{r:List Nat}(h:Sc B bs ao cap data x2 x3 x4 w r):w.cell? ⟨bs,3,none⟩=some x3:=ceb h.blk
def SO(fl:Nat)(a:Addr)(va:Value)(b:Nat)(cs:Array Value)(L:Array Bool)(W:World):Prop:=(L.getD fl false=false→W.cell? a=some va)∧W.heap[b]?=some (.cells cs 67 (0,0))
theorem SO.set{fl i b:Nat}{a:Addr}{va:Value}{cs:Array Value}{L:Array Bool}{W:World}(hi:i≠fl):SO fl a va b cs L W↔SO fl a va b cs (L.setIfInBounds i true) W:=by
 unfold SO
 rw[getD_set_ne false hi]
theorem wpList_append_where{P:Program}{ops:Array Oper}{rest:List Oper}{o:Oper}{a:Act}{w:World}{Q:Exit→Act→World→Prop}(hgd:o.guard=none)(s x:Operand)(t:TypeId)
  (ho:o.op=.call { callee:=.builtin .append,args:=#[s,x],argTypes:=#[t,t] })
  (base:Nat) (e:TypeId) (i:TypeInfo) (z:Value) (size bytes:Nat) (ht:P.underlying t=some (.slice e)) (hi:P.info? e=some i) (hz:i.zero=some z)
  (hsize:i.size=size) (hby:i.bytes=bytes) (hzs:z.cells.size=size) (hsz:0<size)
  (v:Value) (n:Nat) (xs:List Value) (hs:a.eval s=v) (hown:w.ownsRow base e size v n xs)
  (ad:Addr) (m c:Nat) (news:List Value) (hx:a.eval x=.slice (some ad) m c) (hl:news.length=m*size) (hnews:∀ j u,news[j]?=some u→w.cell? (ad.add j)=some u) (h1:∀ u∈news,u.oneCell'=true)
  (h63:n+m≤maxLen) (hbytes:(n+m)*bytes≤140737488355328) (hbase:base≤w.heap.size)
  (h:∀ v' w',w'.ownsRow base e size v' (n+m) (xs++news)→w.grownBy w' v.ownBlock→(∀ g,v'.ownBlock=some g→v.ownBlock=some g∨w.heap.size≤g)→wpList P ops Q rest (a.put o.dst v') w') :
  wpList P ops Q (o::rest) a w:=by
 refine wpList_plain hgd fun K' hK'=>?_
 obtain⟨v',w',hr,h2,h3,h4⟩:=raw (P:=P) (w:=w) base t o.type e i z size bytes ht hi hz hsize hby hzs hsz v n xs hown ad m c news hl hnews h1 h63 hbytes hbase
 unfold Oper.wp execOp
 simp only[ho,resolve,invoke,builtin,Sem.run_bind,Sem.run_pure,Result.andThen_ok,List.map_toArray,List.map_cons,List.map_nil,hs,hx,hr]
 exact hK' _ _ (h v' w' h2 h3 h4)
theorem ObRes.some_{p:Nat}{o:Option ((VT 12 × List Nat) × List Nat)}{V:VT 12}{l q:List Nat}(h:o=some ((V,l),q))(k:FiAny w0 B bs ao cap data w' q (Vs++[V]) (Ps++[l]) (pls++[p])):ObRes w0 B bs ao cap data Vs Ps pls p o (.returned (.tuple #[])) w':=by subst h;exact⟨rfl,k⟩
theorem only7o(w:World)(b o:Nat)(a0 a1 a2 a3 a4 a5 a6:Value) :
  Only b w (((((((w.setCell ⟨b,o,none⟩ a0).setCell ⟨b,o+1,none⟩ a1).setCell ⟨b,o+2,none⟩ a2).setCell ⟨b,o+3,none⟩ a3).setCell ⟨b,o+4,none⟩ a4).setCell ⟨b,o+5,none⟩ a5).setCell ⟨b,o+6,none⟩ a6) ∧
  (((((((w.setCell ⟨b,o,none⟩ a0).setCell ⟨b,o+1,none⟩ a1).setCell ⟨b,o+2,none⟩ a2).setCell ⟨b,o+3,none⟩ a3).setCell ⟨b,o+4,none⟩ a4).setCell ⟨b,o+5,none⟩ a5).setCell ⟨b,o+6,none⟩ a6).heap.size=w.heap.size:=
 ⟨((((((((Only.refl b w).setCell o a0).setCell (o+1) a1).setCell (o+2) a2).setCell (o+3) a3).setCell (o+4) a4).setCell (o+5) a5).setCell (o+6) a6),by simp[World.setCell]⟩
theorem set7g{w:World}{b:Nat}{c0 c1 c2 c3 c4 c5 c6:Value}(h:w.heap[b]?=some (.cells #[c0,c1,c2,c3,c4,c5,c6] 67 (0,0)))(a0 a1 a2 a3 a4 a5 a6:Value) :
  (((((((w.setCell ⟨b,0,none⟩ a0).setCell ⟨b,1,none⟩ a1).setCell ⟨b,2,none⟩ a2).setCell ⟨b,3,none⟩ a3).setCell ⟨b,4,none⟩ a4).setCell ⟨b,5,none⟩ a5).setCell ⟨b,6,none⟩ a6).heap[b]?=some (.cells #[a0,a1,a2,a3,a4,a5,a6] 67 (0,0)):=by
 rw[bsC _ (bsC _ (bsC _ (bsC _ (bsC _ (bsC _ (bsC _ h))))))]
 rfl
def SB(fl b:Nat)(cs:Array Value)(L:Array Bool)(W:World):Prop:=L.getD fl false=false→W.heap[b]?=some (.cells cs 67 (0,0))
theorem SB.set{fl i b:Nat}{cs:Array Value}{L:Array Bool}{W:World}(hi:i≠fl):SB fl b cs L W↔SB fl b cs (L.setIfInBounds i true) W:=by
 unfold SB
 rw[getD_set_ne false hi]
def restC:Nat→Code→Code
 |0,c=>c
 |n+1,.seq _ b=>restC n b
 |_+1,c=>c
theorem obr{x4:Value}(HEW:Hid (∀ W:World,Only bs w0 W→Env B W)){pl:List Nat}(H6:Hid (Fi w0 B bs ao cap data w q ov pv x4 vs Vs ps Ps pl))(hq:vs.length+q.length≤200000)(hvp:ps.length=vs.length){R:Option ((VT 12 × List Nat) × List Nat)}
  (HR:Hid ((match Fo.objVal q with
    |none=>none
    |some (x,q4)=>match Fo.takesWord [101,110,100,111,98,106] q4 with
     |none=>none
     |some q5=>some (x,q5))=R))
  {PL:List Nat} {p:Nat} (HPL:Hid (pl=PL++[p])) (t4 t5 t6 t7 t8 t9 t10 t11 t12 t13 t14 t15 t16 t17 t18 t19 t20 t21 t22 t23 t24 t25 t26 t27 t28 t29 t30 t31 t32 t33 t34 t35 t36 t37 t38 t39 t40:Value) :
  Code.wp Tryz.prog (restC 2 (Tryz.f139.body.getD .skip)) (bodyPost Tryz.prog Tryz.f139 (ObRes w0 B bs ao cap data Vs Ps PL p R)) { tmps:=#[.pointer (some ⟨bs,0,none⟩),undef,undef,undef,t4,t5,t6,t7,t8,t9,t10,t11,t12,t13,t14,t15,t16,t17,t18,t19,t20,t21,t22,t23,t24,t25,t26,t27,t28,t29,t30,t31,t32,t33,t34,t35,t36,t37,t38,t39,t40,undef,undef,undef,undef,undef,undef,undef,undef,undef,undef,undef,undef,undef,undef,undef,undef,undef,undef,undef,undef,undef,undef,undef,undef,undef,undef,undef,undef,undef,undef,undef,undef,undef,undef,undef,undef,undef,undef,undef,undef,undef,undef,undef,undef,undef,undef,undef],defers:=[] } w:=by
 obtain⟨i1,gi,gz0,gz1,gz2⟩:=info_parts iV
 obtain⟨i2,bi,bz0,bz1,bz2⟩:=info_parts iB
 have hps:ps.length≤200000:=by omega
 have HVP:=hide hvp
 clear hvp
 have hBw:=H6.o.sc.env
 have hBb:=H6.o.sc.hb
 have hlt:=H6.o.lt
 have hlw:=H6.o.sc.lt
 have hsz0:=H6.o.only.size
 have HV:=hide (svo (B:=B) (bs:=bs) (ao:=ao) (cap:=cap) (data:=data) 12 (Nat.le_refl _) w q (HEW.o w H6.o.only).err H6.o.sc)
 rw[show((13-12:Nat):Int)=1 from rfl]at HV
 conv=>arg 2;simp only[Tryz.f139,Option.getD_some,restC]
 unfold Fo.objVal at HR
 cases e4:Fo.value 12 q with
 |none =>
  rw[e4]at HV HR
  have HRN:Hid (R=none):=HR.o.symm
  clear HR
  go_wp2_with fail
  refine HV.o.mono ?_
  rintro e w5 ⟨rfl,k5⟩
  exact⟨rfl,.none_ HRN.o (H6.o.only.trans k5)⟩
 |some x =>
  obtain⟨V,q4⟩:=x
  have hvlen:=Fo.value_len e4
  have hmade:=Fo.value_made e4 (show q.length≤200000 by omega)
  rw[e4]at HV HR
  simp only[]at HR
  clear e4
  go_wp2_with fail
  refine HV.o.mono ?_
  rintro e w5 ⟨v,rfl,hv5,h5,k5⟩
  have H7:=hide (H6.o.step h5 k5)
  have hsz5:=k5.size
  have hv5b:VIn (fun g=>w.heap.size≤g∧g<w5.heap.size) 12 w5 v V:=VIn.mono 12 hv5 (fun g h1 h2=>⟨h1,h2⟩)
  obtain⟨k0,k1,k2,k3,ja,jl,jc,ka2,kl,kc2,fa2,fl,fc2,hxf⟩:=VIn.form hv5
  have hkd:k0=((Node.kind (α:=VT 11) V:Nat):Int):=by
   obtain⟨iv,kv,fv,vs2,hvf,_⟩:=VIn.parts (k:=11) hv5
   rw[hxf]at hvf
   unfold nV at hvf
   injection hvf with hvf
   simp at hvf
   exact hvf.1
  subst hxf
  have hbA:Below w5.heap.size w5 (w5.alloc (.cells #[.int .i64 k0,.int .i64 k1,.int .i64 k2,.string k3,.slice ja jl jc,.slice ka2 kl kc2,.slice fa2 fl fc2] 67)):=(Below.refl _ _).alloc (Nat.le_refl _) _
  have H8:=hide (H7.o.below hbA)
  have HV8:Hid (VIn (fun g=>w.heap.size≤g∧g<w5.heap.size) 12 (w5.alloc (.cells #[.int .i64 k0,.int .i64 k1,.int .i64 k2,.string k3,.slice ja jl jc,.slice ka2 kl kc2,.slice fa2 fl fc2] 67)) (.agg #[.int .i64 k0,.int .i64 k1,.int .i64 k2,.string k3,.slice ja jl jc,.slice ka2 kl kc2,.slice fa2 fl fc2]) V):=VIn.keep 12 hv5b (fun g hg _=>hbA.block g hg.2)
  have hbx:(w5.alloc (.cells #[.int .i64 k0,.int .i64 k1,.int .i64 k2,.string k3,.slice ja jl jc,.slice ka2 kl kc2,.slice fa2 fl fc2] 67)).heap[w5.heap.size]?=some (.cells #[.int .i64 k0,.int .i64 k1,.int .i64 k2,.string k3,.slice ja jl jc,.slice ka2 kl kc2,.slice fa2 fl fc2] 67 (0,0)):=bln _ _
  have HX8:=hide hbx
  have HOW8:Hid (Only bs w (w5.alloc (.cells #[.int .i64 k0,.int .i64 k1,.int .i64 k2,.string k3,.slice ja jl jc,.slice ka2 kl kc2,.slice fa2 fl fc2] 67))):=k5.trans (.of_below hbA)
  have HMD:=hide hmade
  have hown1:∀ g,ov.ownBlock=some g→w0.heap.size≤g∧g<w.heap.size:=H6.o.oo.lt
  have hown2:∀ g,pv.ownBlock=some g→w0.heap.size≤g∧g<w.heap.size:=H6.o.op.lt
  have hown3:∀ g,x4.ownBlock=some g→w0.heap.size≤g∧g<w.heap.size:=H6.o.ol.lt
  have HOWN:=hide (And.intro hown1 (And.intro hown2 hown3))
  clear hv5 hv5b hbA hbx h5 k5 HV H7 hmade hown1 hown2 hown3
  generalize hw8:w5.alloc (.cells #[.int .i64 k0,.int .i64 k1,.int .i64 k2,.string k3,.slice ja jl jc,.slice ka2 kl kc2,.slice fa2 fl fc2] 67)=w8 at *
  have HW8:=hide hw8
  clear hw8
  by_cases h7:Node.kind (α:=VT 11) V=7
  ·rw[if_pos h7]at HR
   have hkd7:k0=7:=by rw[hkd,h7];rfl
   clear hkd
   subst hkd7
   have HT:=hide (sWo H8.o.sc { data:=#[115,116,114,101,97,109] })
   rw[show bl { data:=#[115,116,114,101,97,109] }=[115,116,114,101,97,109]from rfl]at HT
   cases e5:Fo.takesWord [115,116,114,101,97,109] q4 with
   |none =>
    rw[e5]at HT HR
    simp only[]at HR
    have hbx8:=HX8.o
    go_wp2_with fail
    rw[HW8.o]
    refine HT.o.mono ?_
    rintro e w9 ⟨rfl,h9,o9⟩
    have HFt:=hide (H8.o.step (show Sc B bs ao cap data _ _ _ w9 q4 from h9) o9)
    have HVt:=hide (VIn.only HV8.o (fun g hg=>by omega) o9)
    have HXt:Hid (w9.heap[w5.heap.size]?=some (.cells #[.int .i64 7,.int .i64 k1,.int .i64 k2,.string k3,.slice ja jl jc,.slice ka2 kl kc2,.slice fa2 fl fc2] 67 (0,0))):=by unfold Hid;rw[o9.block _ (lt_of_block HX8.o) (by omega)];exact HX8.o
    clear h9 o9 HT H8 HV8 HX8 HW8 hbx8 e5
    have HPt:Hid (PackIn w9 B [] (.slice none 0 0)):=Or.inl ⟨rfl,rfl⟩
    have HTE:=hide (sWo HFt.o.sc { data:=#[101,110,100,111,98,106] })
    rw[show bl { data:=#[101,110,100,111,98,106] }=[101,110,100,111,98,106]from rfl]at HTE
    cases e6:Fo.takesWord [101,110,100,111,98,106] q4 with
    |none =>
     rw[e6]at HTE HR
     have HRN:Hid (R=none):=HR.o.symm
     clear HR
     go_wp2_with fail
     try rw[HW8.o]
     refine HTE.o.mono ?_
     rintro e w10 ⟨rfl,h10,o10⟩
     have K10:=hide (HFt.o.only.trans o10)
     clear h10 o10
     go_wp2_with fail
     refine(sn _).mono ?_
     rintro e w' ⟨rfl,hw⟩
     have hw:=hw.symm
     subst hw
     exact⟨rfl,.none_ HRN.o K10.o⟩
    |some q5 =>
     have hq5:=Fo.takesWord_len e6
     rw[e6]at HTE HR
     simp only[]at HR
     clear e6
     go_wp2_with fail
     try rw[HW8.o]
     refine HTE.o.mono ?_
     rintro e w10 ⟨rfl,h10,o10⟩
     have HFa:=hide (HFt.o.step (show Sc B bs ao cap data _ _ _ w10 q5 from h10) o10)
     have HVa:=hide (VIn.only HVt.o (fun g hg=>by omega) o10)
     have HXa:Hid (w10.heap[w5.heap.size]?=some (.cells #[.int .i64 7,.int .i64 k1,.int .i64 k2,.string k3,.slice ja jl jc,.slice ka2 kl kc2,.slice fa2 fl fc2] 67 (0,0))):=by unfold Hid;rw[o10.block _ (lt_of_block HXt.o) (by omega)];exact HXt.o
     have HPa:Hid (PackIn w10 B [] (.slice none 0 0)):=HPt.o.keep (fun g hg=>o10.block g (by have:=HFt.o.sc.env;omega) (by omega))
     clear h10 o10 HTE HFt HVt HXt HPt
     go_wp2_with fail
     refine(smy _).mono ?_
     rintro e w' ⟨rfl,hw⟩
     have hw:=hw.symm
     subst hw
     have hsz10:w5.heap.size<w10.heap.size:=lt_of_block HXa.o
     obtain⟨oa,oc,hov⟩:=ows HFa.o.oo
     have HC:Hid (SO 12 ⟨bs,2,none⟩ ov w5.heap.size #[.int .i64 7,.int .i64 k1,.int .i64 k2,.string k3,.slice ja jl jc,.slice ka2 kl kc2,.slice fa2 fl fc2] (Array.replicate 13 false) w10.drew):=⟨fun _=>HFa.o.drew.sc.c2,HXa.o⟩
     go_wp2_with fail
     refine wrT (SO 12 ⟨bs,2,none⟩ ov w5.heap.size #[.int .i64 7,.int .i64 k1,.int .i64 k2,.string k3,.slice ja jl jc,.slice ka2 kl kc2,.slice fa2 fl fc2]) (by kernel_rfl) ?_
     intro hD
     have hS:=HC.o
     refine ti 0 ?_ hD hS ?_
     clear hD hS;intro hD hS;(try simp only[putL])
     refine ti 1 ?_ hD hS ?_
     clear hD hS;intro hD hS;(try simp only[putL])
     refine ti 2 ?_ hD hS ?_
     clear hD hS;intro hD hS;(try simp only[putL])
     refine tk 3 ?_ hD ?_ hS ?_
     rotate_left
     ·intro W hW;obtain⟨L,hDs,hL,hSL⟩:=hW;have hcl:=hSL.1 (by cases h9:L.getD 12 false with | false=>rfl | true=>exact absurd (hDs.came 3 12 (by kernel_rfl) h9) (by rw[gDiX hL];decide));go_simp;try(with_reducible rfl)
     clear hD hS;intro hD hS;(try simp only[putL])
     refine tk 4 ?_ hD ?_ hS ?_
     rotate_left
     ·intro W hW;obtain⟨L,hDs,hL,hSL⟩:=hW;have hbk:=hSL.2;have e0:W.cell? ⟨w5.heap.size,0,none⟩=some (.int .i64 7):=ceb hbk
      have e1:W.cell? ⟨w5.heap.size,1,none⟩=some (.int .i64 k1):=ceb hbk
      have e2:W.cell? ⟨w5.heap.size,2,none⟩=some (.int .i64 k2):=ceb hbk
      have e3:W.cell? ⟨w5.heap.size,3,none⟩=some (.string k3):=ceb hbk
      have e4:W.cell? ⟨w5.heap.size,4,none⟩=some (.slice ja jl jc):=ceb hbk
      have e5:W.cell? ⟨w5.heap.size,5,none⟩=some (.slice ka2 kl kc2):=ceb hbk
      have e6:W.cell? ⟨w5.heap.size,6,none⟩=some (.slice fa2 fl fc2):=ceb hbk
      go_simp;try(with_reducible rfl)
     clear hD hS;intro hD hS;(try simp only[putL])
     subst hov
     refine ti 5 ?_ hD hS ?_
     clear hD hS;intro hD hS;(try simp only[putL])
     refine on 6 hD fun K' hK=>?_
     go_simp
     have H11:=hide (HFa.o.drew.alloc (.cells zero7 67))
     have HX11:Hid ((w10.drew.alloc (.cells zero7 67)).heap[w5.heap.size]?=some (.cells #[.int .i64 7,.int .i64 k1,.int .i64 k2,.string k3,.slice ja jl jc,.slice ka2 kl kc2,.slice fa2 fl fc2] 67 (0,0))):=bla _ HXa.o
     have HC11:Hid (SO 12 ⟨bs,2,none⟩ (.slice oa vs.length oc) w5.heap.size #[.int .i64 7,.int .i64 k1,.int .i64 k2,.string k3,.slice ja jl jc,.slice ka2 kl kc2,.slice fa2 fl fc2] #[true,true,true,true,true,true,true,false,false,false,false,false,false] (w10.drew.alloc (.cells zero7 67))):=⟨fun _=>H11.o.sc.c2,HX11.o⟩
     refine hK.o _ _ HC11.o (fun hD2 hS2=>?_)
     clear hD hS hK K'
     have hD:=hD2
     have hS:=hS2
     clear hD2 hS2
     (try simp only[putL])
     refine on 7 hD fun K' hK=>?_
     refine saw rfl (.tmp 70) (.tmp 73) 29 rfl w0.heap.size 67 i1 _ 7 112 Tryz.underlying29 gi gz0 gz1 gz2 rfl (by decide) (.slice oa vs.length oc) vs.length (vs.flatMap cellsOf) rfl H11.o.oo ⟨w10.heap.size,0,none⟩ 1 1 [.int .i64 0,.int .i64 0,.int .i64 0,.string { data:=#[] },.slice none 0 0,.slice none 0 0,.slice none 0 0] rfl rfl ?hnews ?hone ?h63 ?hby ?hbs ?_
     case hnews =>
      intro j u hu
      rw[aa]
      show(w10.alloc (.cells zero7 67)).cell? ⟨w10.heap.size,j,none⟩=some u
      rw[ceb (bln w10 _)]
      unfold zero7
      simpa using hu
     case hone =>
      intro u hu
      simp at hu
      rcases hu with rfl | rfl | rfl<;>rfl
     case h63=>unfold maxLen;omega
     case hby=>omega
     case hbs=>exact H11.o.only.size
     intro v6 w6 own6 hg6 hw6
     obtain⟨gr,cr,hv6,hgr⟩:=owf own6 (by omega)
     subst hv6
     have hb6:=(hg6.block bs (lt_of_block H11.o.sc.blk) (fun e=>by have:=(H11.o.oo.lt _ e.symm).1;omega)).trans H11.o.sc.blk
     have hx6:=(hg6.block w5.heap.size (lt_of_block HX11.o) (fun e=>by have h1:=(HOWN.o.1 _ e.symm);omega)).trans HX11.o
     have hgx:gr≠w5.heap.size:=by
      rcases hw6 gr rfl with c | c
      ·have:=HOWN.o.1 _ c;omega
      ·have h3:w10.heap.size+1≤gr:=by simpa using c
       omega
     have hgb:gr≠bs:=by omega
     have hcz:∀ j u,([.int .i64 0,.int .i64 0,.int .i64 0,.string { data:=#[] },.slice none 0 0,.slice none 0 0,.slice none 0 0]:List Value)[j]?=some u→w6.cell? ⟨gr,vs.length*7+j,none⟩=some u:=fun j u hu=>by
      have hlen:(vs.flatMap cellsOf).length=vs.length*7:=H11.o.oo.1
      have:=own6.cells (g:=gr) rfl (vs.length*7+j) u (by rw[List.getElem?_append_right (by omega),hlen,Nat.add_sub_cancel_left];exact hu)
      rwa [aa]at this
     have z0:w6.cell? ⟨gr,vs.length*7,none⟩=some (.int .i64 0):=hcz 0 _ rfl
     have fz0:w6.frozen? ⟨gr,vs.length*7,none⟩=false:=own6.frozenAt _
     have z1:w6.cell? ⟨gr,vs.length*7+1,none⟩=some (.int .i64 0):=hcz 1 _ rfl
     have fz1:w6.frozen? ⟨gr,vs.length*7+1,none⟩=false:=own6.frozenAt _
     have z2:w6.cell? ⟨gr,vs.length*7+2,none⟩=some (.int .i64 0):=hcz 2 _ rfl
     have fz2:w6.frozen? ⟨gr,vs.length*7+2,none⟩=false:=own6.frozenAt _
     have z3:w6.cell? ⟨gr,vs.length*7+3,none⟩=some (.string { data:=#[] }):=hcz 3 _ rfl
     have fz3:w6.frozen? ⟨gr,vs.length*7+3,none⟩=false:=own6.frozenAt _
     have z4:w6.cell? ⟨gr,vs.length*7+4,none⟩=some (.slice none 0 0):=hcz 4 _ rfl
     have fz4:w6.frozen? ⟨gr,vs.length*7+4,none⟩=false:=own6.frozenAt _
     have z5:w6.cell? ⟨gr,vs.length*7+5,none⟩=some (.slice none 0 0):=hcz 5 _ rfl
     have fz5:w6.frozen? ⟨gr,vs.length*7+5,none⟩=false:=own6.frozenAt _
     have z6:w6.cell? ⟨gr,vs.length*7+6,none⟩=some (.slice none 0 0):=hcz 6 _ rfl
     have fz6:w6.frozen? ⟨gr,vs.length*7+6,none⟩=false:=own6.frozenAt _
     have hc6:w6.cell? ⟨bs,2,none⟩=some (.slice oa vs.length oc):=ceb hb6
     have hf6:w6.frozen? ⟨bs,2,none⟩=false:=frb hb6
     have HB6:=hide hb6
     have HX6:=hide hx6
     have OWN6:=hide own6
     have HG6:=hide hg6
     have HWH:=hide hw6
     clear own6 hg6 hw6 hb6 hx6 hcz HC HC11 HX11 HXa
     refine hK.o _ _ ⟨fun _=>hc6,HX6.o⟩ (fun hD2 hS2=>?_)
     clear hD hS hK K'
     have hD:=hD2
     have hS:=hS2
     clear hD2 hS2
     (try simp only[putL])
     refine tk 8 ?_ hD ?_ hS ?_
     rotate_left
     ·intro W hW;have hl9:(vs.length:Int)<(vs.length:Int)+1:=(by omega);go_simp;try(with_reducible rfl)
     clear hD hS;intro hD hS;(try simp only[putL])
     refine ti 10 ?_ hD hS ?_
     clear hD hS;intro hD hS;(try simp only[putL])
     refine ti 11 ?_ hD hS ?_
     clear hD hS;intro hD hS;(try simp only[putL])
     have HXV:Hid (VIn (fun g=>w0.heap.size≤g∧(Value.slice oa vs.length oc).ownBlock≠some g∧pv.ownBlock≠some g∧x4.ownBlock≠some g) 12 (w10.drew.alloc (.cells zero7 67)) (.agg #[.int .i64 7,.int .i64 k1,.int .i64 k2,.string k3,.slice ja jl jc,.slice ka2 kl kc2,.slice fa2 fl fc2]) V):=
      VIn.mono 12 (VIn.keep (w:=w10) 12 HVa.o (fun g _ hg2=>(((Below.refl w10.heap.size w10).drew).alloc (Nat.le_refl _) (.cells zero7 67)).block g hg2)) (fun g hg _=>⟨by omega,fun e=>by have:=HOWN.o.1 g e;omega,fun e=>by have:=HOWN.o.2.1 g e;omega,fun e=>by have:=HOWN.o.2.2 g e;omega⟩)
     refine wpATt (i:=9) (j:=12) (by kernel_rfl) rfl rfl hD (fun K' hK=>?_) (fun K' hK=>?_)
     ·go_simp
      have hoA:=only7o w6 gr (vs.length*7) (.int .i64 7) (.int .i64 k1) (.int .i64 k2) (.string k3) (.slice ja jl jc) (.slice ka2 kl kc2) (.slice fa2 fl fc2)
      have hrA:=rl (a0:=.int .i64 7) (a1:=.int .i64 k1) (a2:=.int .i64 k2) (a3:=.string k3) (a4:=.slice ja jl jc) (a5:=.slice ka2 kl kc2) (a6:=.slice fa2 fl fc2) OWN6.o H11.o.oo.1 rfl
      generalize (((((((w6.setCell ⟨gr,vs.length*7,none⟩ (.int .i64 7)).setCell ⟨gr,vs.length*7+1,none⟩ (.int .i64 k1)).setCell ⟨gr,vs.length*7+2,none⟩ (.int .i64 k2)).setCell ⟨gr,vs.length*7+3,none⟩ (.string k3)).setCell ⟨gr,vs.length*7+4,none⟩ (.slice ja jl jc)).setCell ⟨gr,vs.length*7+5,none⟩ (.slice ka2 kl kc2)).setCell ⟨gr,vs.length*7+6,none⟩ (.slice fa2 fl fc2))=wA at *
      have hbA:=(hoA.1.block bs (lt_of_block HB6.o) (Ne.symm hgb)).trans HB6.o
      have hxA:=(hoA.1.block w5.heap.size (lt_of_block HX6.o) (Ne.symm hgx)).trans HX6.o
      have hcA:wA.cell? ⟨bs,2,none⟩=some (.slice oa vs.length oc):=ceb hbA
      have hfA:wA.frozen? ⟨bs,2,none⟩=false:=frb hbA
      have HBA:=hide hbA
      have HXA:=hide hxA
      have HOA:=hide hoA
      have HRA:=hide hrA
      clear hbA hxA hoA hrA z0 z1 z2 z3 z4 z5 z6 fz0 fz1 fz2 fz3 fz4 fz5 fz6 hc6 hf6
      refine hK.o _ _ ⟨fun _=>hcA,HXA.o⟩ (fun hD2 hS2=>?_)
      clear hD hS hK K'
      have hD:=hD2
      have hS:=hS2
      clear hD2 hS2
      (try simp only[putL])
      refine on 12 hD fun K' hK=>?_
      go_simp
      refine hK.o _ _ ⟨fun h9=>(by cases h9),by rw[bsCn _ (by show w5.heap.size≠bs;omega)];exact HXA.o⟩ (fun hD2 hS2=>?_)
      clear hD hS hK K'
      have hD:=hD2
      have hS:=hS2
      clear hD2 hS2
      (try simp only[putL])
      refine wATd (by kernel_rfl) ?_ _
      clear hD hS
      have hW6:∀ g,g≠bs→(Value.slice (some ⟨gr,0,none⟩) (vs.length+1) cr).ownBlock≠some g→(wA.setCell ⟨bs,2,none⟩ (.slice (some ⟨gr,0,none⟩) (vs.length+1) cr)).heap[g]?=w6.heap[g]?:=fun g h1 h2=>by
       rw[bsCn _ h1]
       rcases Nat.lt_or_ge g w6.heap.size with c | c
       ·exact HOA.o.1.block g c (fun e=>h2 (by rw[e];rfl))
       ·rw[Array.getElem?_eq_none (by rw[HOA.o.2];exact c),Array.getElem?_eq_none c]
      have H13:Hid (Fi w0 B bs ao cap data (wA.setCell ⟨bs,2,none⟩ (.slice (some ⟨gr,0,none⟩) (vs.length+1) cr)) q5 (.slice (some ⟨gr,0,none⟩) (vs.length+1) cr) pv x4 (vs++[.agg #[.int .i64 7,.int .i64 k1,.int .i64 k2,.string k3,.slice ja jl jc,.slice ka2 kl kc2,.slice fa2 fl fc2]]) (Vs++[V]) ps Ps pl):=
       H11.o.obj (w6:=w6) HXV.o HG6.o HWH.o (fun g hg=>(OWN6.o.lt g hg).1) HOA.o.1.os HOA.o.1.tape HOA.o.1.output (by simp[World.setCell];exact HOA.o.2) hW6 (by rw[bsC _ HBA.o];rfl) (ownsRow_setCell_below HRA.o (by show bs<w0.heap.size;omega) _)
      have HPk:Hid (PackIn (wA.setCell ⟨bs,2,none⟩ (.slice (some ⟨gr,0,none⟩) (vs.length+1) cr)) B [] (.slice none 0 0)):=HPa.o.keep (fun g hg=>(hW6 g (by omega) (fun e=>by have:=(OWN6.o.lt g e).1;omega)).trans ((HG6.o.block g (Nat.lt_of_lt_of_le (show g<w10.heap.size by omega) ((Below.refl w10.heap.size w10).drew.alloc (Nat.le_refl _) (.cells zero7 67)).size) (fun e=>by have:=(HFa.o.oo.lt g e.symm).1;omega)).trans (((Below.refl w10.heap.size w10).drew.alloc (Nat.le_refl _) (.cells zero7 67)).block g (by show g<w10.heap.size;omega))))
      generalize wA.setCell ⟨bs,2,none⟩ (.slice (some ⟨gr,0,none⟩) (vs.length+1) cr)=w13 at *
      clear hW6 HBA HXA HOA HRA hcA hfA HXV HB6 HX6 OWN6 HG6 HWH H11 HVa HPa HFa
      have hB13:w0.heap.size≤w13.heap.size:=H13.o.only.size
      have c3:w13.cell? ⟨bs,3,none⟩=some pv:=H13.o.sc.c3
      obtain⟨qa,qc,hpv⟩:=ows H13.o.op
      subst hpv
      go_wp2_with (at_builtin;refine wpList_append_where rfl (.tmp 82) (.tmp 84) 42 rfl w0.heap.size 23 i2 (.slice none 0 0) 1 24 Tryz.underlying42 bi bz0 bz1 bz2 rfl (by decide) (.slice qa ps.length qc) ps.length ps rfl (H13.o.alloc _).op ⟨w13.heap.size,0,none⟩ 1 1 [.slice none 0 0] rfl rfl (fun j u hu=>by rw[aa,ceb (bln w13 _)];simpa using hu) (by intro u hu;simp at hu;subst hu;rfl) (by unfold maxLen;omega) (by omega) (by simp;omega) ?_)
      intro v9 w14 own9 hg9 hw9
      have H14:=hide ((H13.o.alloc _).pack (HPk.o.keep (fun g hg=>((Below.refl w13.heap.size w13).alloc (Nat.le_refl _) _).block g (by omega))) own9 hg9 (fun g hg=>by have:=hw9 g hg;simpa using this))
      have hv9:=(hg9.block bs (lt_of_block (H13.o.alloc _).sc.blk) (fun e=>by have:=(H13.o.op.lt _ e.symm).1;omega)).trans (H13.o.alloc _).sc.blk
      have hc9:w14.cell? ⟨bs,3,none⟩=some (.slice qa ps.length qc):=ceb hv9
      have hf9:w14.frozen? ⟨bs,3,none⟩=false:=frb hv9
      obtain⟨a9,c9,hv9s⟩:=ows own9
      subst hv9s
      clear own9 hg9 hw9 hv9
      go_wp2
      go_end0
      exact .some_ HR.o.symm ⟨_,_,_,_,_,HPL.o▸H14.o⟩
     ·go_simp
      have hoB:Only bs w6 (w6.setCell ⟨bs,2,none⟩ (.slice (some ⟨gr,0,none⟩) (vs.length+1) cr)):=(Only.refl bs w6).setCell 2 _
      have hzB:(w6.setCell ⟨bs,2,none⟩ (.slice (some ⟨gr,0,none⟩) (vs.length+1) cr)).heap.size=w6.heap.size:=by simp[World.setCell]
      have hbB:(w6.setCell ⟨bs,2,none⟩ (.slice (some ⟨gr,0,none⟩) (vs.length+1) cr)).heap[bs]?=some (.cells #[.slice ao data.length cap,.int .i64 (data.length-q5.length:Nat),.slice (some ⟨gr,0,none⟩) (vs.length+1) cr,pv,x4] 131 (0,0)):=by rw[bsC _ HB6.o];rfl
      have hrB:=ownsRow_setCell_below OWN6.o (a:=⟨bs,2,none⟩) (by show bs<w0.heap.size;omega) (.slice (some ⟨gr,0,none⟩) (vs.length+1) cr)
      generalize w6.setCell ⟨bs,2,none⟩ (.slice (some ⟨gr,0,none⟩) (vs.length+1) cr)=wB at *
      have hgl:gr<w6.heap.size:=(OWN6.o.lt gr rfl).2
      have hxB:=(hoB.block w5.heap.size (lt_of_block HX6.o) (by omega)).trans HX6.o
      have y0:=ces z0 (hoB.block gr hgl hgb)
      have g0:wB.frozen? ⟨gr,vs.length*7,none⟩=false:=hrB.frozenAt _
      have y1:=ces z1 (hoB.block gr hgl hgb)
      have g1:wB.frozen? ⟨gr,vs.length*7+1,none⟩=false:=hrB.frozenAt _
      have y2:=ces z2 (hoB.block gr hgl hgb)
      have g2:wB.frozen? ⟨gr,vs.length*7+2,none⟩=false:=hrB.frozenAt _
      have y3:=ces z3 (hoB.block gr hgl hgb)
      have g3:wB.frozen? ⟨gr,vs.length*7+3,none⟩=false:=hrB.frozenAt _
      have y4:=ces z4 (hoB.block gr hgl hgb)
      have g4:wB.frozen? ⟨gr,vs.length*7+4,none⟩=false:=hrB.frozenAt _
      have y5:=ces z5 (hoB.block gr hgl hgb)
      have g5:wB.frozen? ⟨gr,vs.length*7+5,none⟩=false:=hrB.frozenAt _
      have y6:=ces z6 (hoB.block gr hgl hgb)
      have g6:wB.frozen? ⟨gr,vs.length*7+6,none⟩=false:=hrB.frozenAt _
      have HXB:=hide hxB
      have HBB:=hide hbB
      have HOB:=hide hoB
      have HRB:=hide hrB
      have HZB:=hide hzB
      clear hxB hbB hoB hrB hzB z0 z1 z2 z3 z4 z5 z6 fz0 fz1 fz2 fz3 fz4 fz5 fz6 hc6 hf6
      refine hK.o _ _ ⟨fun h9=>(by cases h9),HXB.o⟩ (fun hD2 hS2=>?_)
      clear hD hS hK K'
      have hD:=hD2
      have hS:=hS2
      clear hD2 hS2
      (try simp only[putL])
      refine on 9 hD fun K' hK=>?_
      go_simp
      have hoA:=only7o wB gr (vs.length*7) (.int .i64 7) (.int .i64 k1) (.int .i64 k2) (.string k3) (.slice ja jl jc) (.slice ka2 kl kc2) (.slice fa2 fl fc2)
      have hrA:=rl (a0:=.int .i64 7) (a1:=.int .i64 k1) (a2:=.int .i64 k2) (a3:=.string k3) (a4:=.slice ja jl jc) (a5:=.slice ka2 kl kc2) (a6:=.slice fa2 fl fc2) HRB.o H11.o.oo.1 rfl
      generalize (((((((wB.setCell ⟨gr,vs.length*7,none⟩ (.int .i64 7)).setCell ⟨gr,vs.length*7+1,none⟩ (.int .i64 k1)).setCell ⟨gr,vs.length*7+2,none⟩ (.int .i64 k2)).setCell ⟨gr,vs.length*7+3,none⟩ (.string k3)).setCell ⟨gr,vs.length*7+4,none⟩ (.slice ja jl jc)).setCell ⟨gr,vs.length*7+5,none⟩ (.slice ka2 kl kc2)).setCell ⟨gr,vs.length*7+6,none⟩ (.slice fa2 fl fc2))=wA at *
      have HOA:=hide hoA
      have HRA:=hide hrA
      clear hoA hrA y0 y1 y2 y3 y4 y5 y6 g0 g1 g2 g3 g4 g5 g6
      refine hK.o _ _ ⟨fun h9=>(by cases h9),(HOA.o.1.block w5.heap.size (lt_of_block HXB.o) (Ne.symm hgx)).trans HXB.o⟩ (fun hD2 hS2=>?_)
      clear hD hS hK K'
      have hD:=hD2
      have hS:=hS2
      clear hD2 hS2
      (try simp only[putL])
      refine wATd (by kernel_rfl) ?_ _
      clear hD hS
      have hW6:∀ g,g≠bs→(Value.slice (some ⟨gr,0,none⟩) (vs.length+1) cr).ownBlock≠some g→wA.heap[g]?=w6.heap[g]?:=fun g h1 h2=>by
       rcases Nat.lt_or_ge g w6.heap.size with c | c
       ·exact(HOA.o.1.block g (by rw[HZB.o];exact c) (fun e=>h2 (by rw[e];rfl))).trans (HOB.o.block g c h1)
       ·rw[Array.getElem?_eq_none (by rw[HOA.o.2,HZB.o];exact c),Array.getElem?_eq_none c]
      have H13:Hid (Fi w0 B bs ao cap data wA q5 (.slice (some ⟨gr,0,none⟩) (vs.length+1) cr) pv x4 (vs++[.agg #[.int .i64 7,.int .i64 k1,.int .i64 k2,.string k3,.slice ja jl jc,.slice ka2 kl kc2,.slice fa2 fl fc2]]) (Vs++[V]) ps Ps pl):=
       H11.o.obj (w6:=w6) HXV.o HG6.o HWH.o (fun g hg=>(OWN6.o.lt g hg).1) (HOA.o.1.os.trans HOB.o.os) (HOA.o.1.tape.trans HOB.o.tape) (HOA.o.1.output.trans HOB.o.output) (HOA.o.2.trans HZB.o) hW6 ((HOA.o.1.block bs (lt_of_block HBB.o) (Ne.symm hgb)).trans HBB.o) HRA.o
      have HPk:Hid (PackIn wA B [] (.slice none 0 0)):=HPa.o.keep (fun g hg=>(hW6 g (by omega) (fun e=>by have:=(OWN6.o.lt g e).1;omega)).trans ((HG6.o.block g (Nat.lt_of_lt_of_le (show g<w10.heap.size by omega) ((Below.refl w10.heap.size w10).drew.alloc (Nat.le_refl _) (.cells zero7 67)).size) (fun e=>by have:=(HFa.o.oo.lt g e.symm).1;omega)).trans (((Below.refl w10.heap.size w10).drew.alloc (Nat.le_refl _) (.cells zero7 67)).block g (by show g<w10.heap.size;omega))))
      obtain⟨w13,hw13⟩:∃ w13,wA=w13:=⟨_,rfl⟩
      subst hw13
      have w13:=wA
      clear w13
      clear hW6 HOA HRA HXV HB6 HX6 OWN6 HG6 HWH H11 HVa HPa HFa HBB HXB HOB HRB HZB
      have hB13:w0.heap.size≤wA.heap.size:=H13.o.only.size
      have c3:wA.cell? ⟨bs,3,none⟩=some pv:=H13.o.sc.c3
      obtain⟨qa,qc,hpv⟩:=ows H13.o.op
      subst hpv
      go_wp2_with (at_builtin;refine wpList_append_where rfl (.tmp 82) (.tmp 84) 42 rfl w0.heap.size 23 i2 (.slice none 0 0) 1 24 Tryz.underlying42 bi bz0 bz1 bz2 rfl (by decide) (.slice qa ps.length qc) ps.length ps rfl (H13.o.alloc _).op ⟨wA.heap.size,0,none⟩ 1 1 [.slice none 0 0] rfl rfl (fun j u hu=>by rw[aa,ceb (bln wA _)];simpa using hu) (by intro u hu;simp at hu;subst hu;rfl) (by unfold maxLen;omega) (by omega) (by simp;omega) ?_)
      intro v9 w14 own9 hg9 hw9
      have H14:=hide ((H13.o.alloc _).pack (HPk.o.keep (fun g hg=>((Below.refl wA.heap.size wA).alloc (Nat.le_refl _) _).block g (by omega))) own9 hg9 (fun g hg=>by have:=hw9 g hg;simpa using this))
      have hv9:=(hg9.block bs (lt_of_block (H13.o.alloc _).sc.blk) (fun e=>by have:=(H13.o.op.lt _ e.symm).1;omega)).trans (H13.o.alloc _).sc.blk
      have hc9:w14.cell? ⟨bs,3,none⟩=some (.slice qa ps.length qc):=ceb hv9
      have hf9:w14.frozen? ⟨bs,3,none⟩=false:=frb hv9
      obtain⟨a9,c9,hv9s⟩:=ows own9
      subst hv9s
      clear own9 hg9 hw9 hv9
      go_wp2
      go_end0
      exact .some_ HR.o.symm ⟨_,_,_,_,_,HPL.o▸H14.o⟩
   |some t =>
    rw[e5]at HT HR
    simp only[]at HR
    have htl:=Fo.takesWord_len e5
    go_wp2_with fail
    rw[HW8.o]
    refine HT.o.mono ?_
    rintro e w9 ⟨rfl,h9,o9⟩
    have HF9:=hide (H8.o.step (show Sc B bs ao cap data _ _ _ w9 t from h9) o9)
    have HV9:=hide (VIn.only HV8.o (fun g hg=>by omega) o9)
    have HX9:Hid (w9.heap[w5.heap.size]?=some (.cells #[.int .i64 7,.int .i64 k1,.int .i64 k2,.string k3,.slice ja jl jc,.slice ka2 kl kc2,.slice fa2 fl fc2] 67 (0,0))):=by unfold Hid;rw[o9.block _ (lt_of_block HX8.o) (by omega)];exact HX8.o
    have hsz9:w5.heap.size<w9.heap.size:=lt_of_block HX9.o
    have HO9:Hid (Only bs w w9):=HOW8.o.trans o9
    have HST:=hide (so2 (k:=11) HF9.o.drew.sc (VIn.keep (w:=w9) (w':=w9.drew) 12 HV9.o (fun g _ _=>rfl)) (fun g hg=>by omega) (HMD.o.2.2.1 h7) HMD.o.few)
    have HC:Hid (SB 8 w5.heap.size #[.int .i64 7,.int .i64 k1,.int .i64 k2,.string k3,.slice ja jl jc,.slice ka2 kl kc2,.slice fa2 fl fc2] (Array.replicate 10 false) w9.drew):=fun _=>HX9.o
    clear h9 o9 HT H8 HV8 HX8 HW8 e5
    go_wp2_with fail
    refine wrT (SB 8 w5.heap.size #[.int .i64 7,.int .i64 k1,.int .i64 k2,.string k3,.slice ja jl jc,.slice ka2 kl kc2,.slice fa2 fl fc2]) (by kernel_rfl) ?_
    intro hD
    have hS:=HC.o
    refine ti 0 ?_ hD hS ?_
    clear hD hS;intro hD hS;(try simp only[putL])
    refine ti 1 ?_ hD hS ?_
    clear hD hS;intro hD hS;(try simp only[putL])
    refine ti 2 ?_ hD hS ?_
    clear hD hS;intro hD hS;(try simp only[putL])
    refine tk 3 ?_ hD ?_ hS ?_
    rotate_left
    ·intro W hW;obtain⟨L,hDs,hL,hSL⟩:=hW;have hbk:=hSL (by cases h9:L.getD 8 false with | false=>rfl | true=>exact absurd (hDs.came 3 8 (by kernel_rfl) h9) (by rw[gDiX hL];decide));have e0:W.cell? ⟨w5.heap.size,0,none⟩=some (.int .i64 7):=ceb hbk
     have e1:W.cell? ⟨w5.heap.size,1,none⟩=some (.int .i64 k1):=ceb hbk
     have e2:W.cell? ⟨w5.heap.size,2,none⟩=some (.int .i64 k2):=ceb hbk
     have e3:W.cell? ⟨w5.heap.size,3,none⟩=some (.string k3):=ceb hbk
     have e4:W.cell? ⟨w5.heap.size,4,none⟩=some (.slice ja jl jc):=ceb hbk
     have e5:W.cell? ⟨w5.heap.size,5,none⟩=some (.slice ka2 kl kc2):=ceb hbk
     have e6:W.cell? ⟨w5.heap.size,6,none⟩=some (.slice fa2 fl fc2):=ceb hbk
     go_simp;try(with_reducible rfl)
    clear hD hS;intro hD hS;(try simp only[putL])
    cases e7:Fo.stream (k:=11) V t with
    |none =>
     rw[e7]at HST HR
     have HRN:Hid (R=none):=HR.o.symm
     clear HR
     refine on 4 hD fun K' hK=>?_
     go_simp
     refine HST.o.mono ?_
     rintro e w11 ⟨rfl,o11⟩
     exact⟨rfl,.none_ HRN.o (HF9.o.drew.only.trans o11)⟩
    |some z =>
     obtain⟨⟨S,l⟩,q6⟩:=z
     have hq6:=Fo.stream_len e7
     rw[e7]at HST HR
     simp only[]at HR
     clear e7
     refine on 4 hD fun K' hK=>?_
     go_simp
     refine HST.o.mono ?_
     rintro e w11 ⟨_,rfl,⟨sv,pv',rfl,hsv,htk⟩,h11,o11⟩
     have hsv2:VIn (fun g=>w.heap.size≤g∧g≠w5.heap.size) 12 w11 sv S:=VIn.mono 12 hsv (fun g hg _=>by rcases hg with hg | hg;exact⟨hg.1,by omega⟩;have h3:w9.heap.size≤g:=hg;exact⟨by omega,by omega⟩)
     obtain⟨s0,s1,s2,s3,sa,sl,sc,sa2,sl2,sc2,sa3,sl3,sc3,rfl⟩:=VIn.form hsv
     obtain⟨bd,od,cd,hpve,_⟩:=id htk
     have hx11:w11.heap[w5.heap.size]?=some (.cells #[.int .i64 7,.int .i64 k1,.int .i64 k2,.string k3,.slice ja jl jc,.slice ka2 kl kc2,.slice fa2 fl fc2] 67 (0,0)):=by rw[o11.block _ hsz9 (by omega)];exact HX9.o
     have HS11:=hide h11
     have HO11:Hid (Only bs w w11):=HO9.o.trans ((Only.of_below (Below.refl _ _).drew).trans o11)
     have HV11:=hide hsv2
     have HTK:=hide htk
     have HX11:=hide hx11
     subst hpve
     have r0:w11.cell? ⟨w5.heap.size,0,none⟩=some (.int .i64 7):=ceb hx11
     have f0:w11.frozen? ⟨w5.heap.size,0,none⟩=false:=frb hx11
     have r1:w11.cell? ⟨w5.heap.size,1,none⟩=some (.int .i64 k1):=ceb hx11
     have f1:w11.frozen? ⟨w5.heap.size,1,none⟩=false:=frb hx11
     have r2:w11.cell? ⟨w5.heap.size,2,none⟩=some (.int .i64 k2):=ceb hx11
     have f2:w11.frozen? ⟨w5.heap.size,2,none⟩=false:=frb hx11
     have r3:w11.cell? ⟨w5.heap.size,3,none⟩=some (.string k3):=ceb hx11
     have f3:w11.frozen? ⟨w5.heap.size,3,none⟩=false:=frb hx11
     have r4:w11.cell? ⟨w5.heap.size,4,none⟩=some (.slice ja jl jc):=ceb hx11
     have f4:w11.frozen? ⟨w5.heap.size,4,none⟩=false:=frb hx11
     have r5:w11.cell? ⟨w5.heap.size,5,none⟩=some (.slice ka2 kl kc2):=ceb hx11
     have f5:w11.frozen? ⟨w5.heap.size,5,none⟩=false:=frb hx11
     have r6:w11.cell? ⟨w5.heap.size,6,none⟩=some (.slice fa2 fl fc2):=ceb hx11
     have f6:w11.frozen? ⟨w5.heap.size,6,none⟩=false:=frb hx11
     clear hsv hsv2 htk h11 o11 hx11 HST HC HX9
     generalize l.length=ln at *
     refine hK.o _ _ (fun _=>HX11.o) (fun hD2 hS2=>?_)
     clear hD hS hK K'
     have hD:=hD2
     have hS:=hS2
     clear hD2 hS2
     (try simp only[putL])
     refine ti 5 ?_ hD hS ?_
     clear hD hS;intro hD hS;(try simp only[putL])
     refine ti 6 ?_ hD hS ?_
     clear hD hS;intro hD hS;(try simp only[putL])
     refine ti 7 ?_ hD hS ?_
     clear hD hS;intro hD hS;(try simp only[putL])
     refine on 8 hD fun K' hK=>?_
     go_simp
     have hoA:=only7 w11 w5.heap.size (.int .i64 s0) (.int .i64 s1) (.int .i64 s2) (.string s3) (.slice sa sl sc) (.slice sa2 sl2 sc2) (.slice sa3 sl3 sc3)
     have hxA:=set7g HX11.o (.int .i64 s0) (.int .i64 s1) (.int .i64 s2) (.string s3) (.slice sa sl sc) (.slice sa2 sl2 sc2) (.slice sa3 sl3 sc3)
     generalize (((((((w11.setCell ⟨w5.heap.size,0,none⟩ (.int .i64 s0)).setCell ⟨w5.heap.size,1,none⟩ (.int .i64 s1)).setCell ⟨w5.heap.size,2,none⟩ (.int .i64 s2)).setCell ⟨w5.heap.size,3,none⟩ (.string s3)).setCell ⟨w5.heap.size,4,none⟩ (.slice sa sl sc)).setCell ⟨w5.heap.size,5,none⟩ (.slice sa2 sl2 sc2)).setCell ⟨w5.heap.size,6,none⟩ (.slice sa3 sl3 sc3))=wA at *
     have HOA:=hide hoA
     have HXA:=hide hxA
     clear hoA hxA r0 r1 r2 r3 r4 r5 r6 f0 f1 f2 f3 f4 f5 f6
     refine hK.o _ _ (fun h9=>by cases h9) (fun hD2 hS2=>?_)
     clear hD hS hK K'
     have hD:=hD2
     have hS:=hS2
     clear hD2 hS2
     (try simp only[putL])
     refine on 9 hD fun K' hK=>?_
     go_simp
     refine hK.o _ _ (fun h9=>by cases h9) (fun hD2 hS2=>?_)
     clear hD hS hK K'
     have hD:=hD2
     have hS:=hS2
     clear hD2 hS2
     (try simp only[putL])
     refine wATd (by kernel_rfl) ?_ _
     clear hD hS
     have hw11:=HO11.o.size
     have HOt:Hid (Only bs w wA):=⟨HOA.o.os.trans HO11.o.os,HOA.o.tape.trans HO11.o.tape,HOA.o.output.trans HO11.o.output,Nat.le_trans hw11 HOA.o.size,fun g h1 h2=>(HOA.o.block g (by omega) (by omega)).trans (HO11.o.block g h1 h2)⟩
     have HSt:Hid (Sc B bs ao cap data ov pv x4 wA q6):=⟨HS11.o.hb,(HOA.o.block bs (lt_of_block HS11.o.blk) (by omega)).trans HS11.o.blk,HS11.o.dat.other (fun g hg=>HOA.o.block g (by omega) (by omega)),HS11.o.byt,HS11.o.len,HS11.o.lc,HS11.o.le,HS11.o.suf,HS11.o.ad⟩
     have HFt:=hide (H6.o.step HSt.o HOt.o)
     have HVt:=hide (VIn.keep (w':=wA) 12 HV11.o (fun g hg hg2=>HOA.o.block g hg2 hg.2))
     have HXt:=HXA
     have HPt:Hid (PackIn wA B l (.slice (some ⟨bd,od,none⟩) ln cd)):=Or.inr (HTK.o.only HOA.o (by omega) (by omega))
     clear HOt HSt HOA HXA HTK HV11 HX11 HS11 HF9 HV9
     have HTE:=hide (sWo HFt.o.sc { data:=#[101,110,100,111,98,106] })
     rw[show bl { data:=#[101,110,100,111,98,106] }=[101,110,100,111,98,106]from rfl]at HTE
     cases e6:Fo.takesWord [101,110,100,111,98,106] q6 with
     |none =>
      rw[e6]at HTE HR
      have HRN:Hid (R=none):=HR.o.symm
      clear HR
      go_wp2_with fail
      try rw[HW8.o]
      refine HTE.o.mono ?_
      rintro e w10 ⟨rfl,h10,o10⟩
      have K10:=hide (HFt.o.only.trans o10)
      clear h10 o10
      go_wp2_with fail
      refine(sn _).mono ?_
      rintro e w' ⟨rfl,hw⟩
      have hw:=hw.symm
      subst hw
      exact⟨rfl,.none_ HRN.o K10.o⟩
     |some q5 =>
      have hq5:=Fo.takesWord_len e6
      rw[e6]at HTE HR
      simp only[]at HR
      clear e6
      go_wp2_with fail
      try rw[HW8.o]
      refine HTE.o.mono ?_
      rintro e w10 ⟨rfl,h10,o10⟩
      have HFa:=hide (HFt.o.step (show Sc B bs ao cap data _ _ _ w10 q5 from h10) o10)
      have HVa:=hide (VIn.only HVt.o (fun g hg=>by omega) o10)
      have HXa:Hid (w10.heap[w5.heap.size]?=some (.cells #[.int .i64 s0,.int .i64 s1,.int .i64 s2,.string s3,.slice sa sl sc,.slice sa2 sl2 sc2,.slice sa3 sl3 sc3] 67 (0,0))):=by unfold Hid;rw[o10.block _ (lt_of_block HXt.o) (by omega)];exact HXt.o
      have HPa:Hid (PackIn w10 B l (.slice (some ⟨bd,od,none⟩) ln cd)):=HPt.o.keep (fun g hg=>o10.block g (by have:=HFt.o.sc.env;omega) (by omega))
      clear h10 o10 HTE HFt HVt HXt HPt
      go_wp2_with fail
      refine(smy _).mono ?_
      rintro e w' ⟨rfl,hw⟩
      have hw:=hw.symm
      subst hw
      have hsz10:w5.heap.size<w10.heap.size:=lt_of_block HXa.o
      obtain⟨oa,oc,hov⟩:=ows HFa.o.oo
      have HC:Hid (SO 12 ⟨bs,2,none⟩ ov w5.heap.size #[.int .i64 s0,.int .i64 s1,.int .i64 s2,.string s3,.slice sa sl sc,.slice sa2 sl2 sc2,.slice sa3 sl3 sc3] (Array.replicate 13 false) w10.drew):=⟨fun _=>HFa.o.drew.sc.c2,HXa.o⟩
      go_wp2_with fail
      refine wrT (SO 12 ⟨bs,2,none⟩ ov w5.heap.size #[.int .i64 s0,.int .i64 s1,.int .i64 s2,.string s3,.slice sa sl sc,.slice sa2 sl2 sc2,.slice sa3 sl3 sc3]) (by kernel_rfl) ?_
      intro hD
      have hS:=HC.o
      refine ti 0 ?_ hD hS ?_
      clear hD hS;intro hD hS;(try simp only[putL])
      refine ti 1 ?_ hD hS ?_
      clear hD hS;intro hD hS;(try simp only[putL])
      refine ti 2 ?_ hD hS ?_
      clear hD hS;intro hD hS;(try simp only[putL])
      refine tk 3 ?_ hD ?_ hS ?_
      rotate_left
      ·intro W hW;obtain⟨L,hDs,hL,hSL⟩:=hW;have hcl:=hSL.1 (by cases h9:L.getD 12 false with | false=>rfl | true=>exact absurd (hDs.came 3 12 (by kernel_rfl) h9) (by rw[gDiX hL];decide));go_simp;try(with_reducible rfl)
      clear hD hS;intro hD hS;(try simp only[putL])
      refine tk 4 ?_ hD ?_ hS ?_
      rotate_left
      ·intro W hW;obtain⟨L,hDs,hL,hSL⟩:=hW;have hbk:=hSL.2;have e0:W.cell? ⟨w5.heap.size,0,none⟩=some (.int .i64 s0):=ceb hbk
       have e1:W.cell? ⟨w5.heap.size,1,none⟩=some (.int .i64 s1):=ceb hbk
       have e2:W.cell? ⟨w5.heap.size,2,none⟩=some (.int .i64 s2):=ceb hbk
       have e3:W.cell? ⟨w5.heap.size,3,none⟩=some (.string s3):=ceb hbk
       have e4:W.cell? ⟨w5.heap.size,4,none⟩=some (.slice sa sl sc):=ceb hbk
       have e5:W.cell? ⟨w5.heap.size,5,none⟩=some (.slice sa2 sl2 sc2):=ceb hbk
       have e6:W.cell? ⟨w5.heap.size,6,none⟩=some (.slice sa3 sl3 sc3):=ceb hbk
       go_simp;try(with_reducible rfl)
      clear hD hS;intro hD hS;(try simp only[putL])
      subst hov
      refine ti 5 ?_ hD hS ?_
      clear hD hS;intro hD hS;(try simp only[putL])
      refine on 6 hD fun K' hK=>?_
      go_simp
      have H11:=hide (HFa.o.drew.alloc (.cells zero7 67))
      have HX11:Hid ((w10.drew.alloc (.cells zero7 67)).heap[w5.heap.size]?=some (.cells #[.int .i64 s0,.int .i64 s1,.int .i64 s2,.string s3,.slice sa sl sc,.slice sa2 sl2 sc2,.slice sa3 sl3 sc3] 67 (0,0))):=bla _ HXa.o
      have HC11:Hid (SO 12 ⟨bs,2,none⟩ (.slice oa vs.length oc) w5.heap.size #[.int .i64 s0,.int .i64 s1,.int .i64 s2,.string s3,.slice sa sl sc,.slice sa2 sl2 sc2,.slice sa3 sl3 sc3] #[true,true,true,true,true,true,true,false,false,false,false,false,false] (w10.drew.alloc (.cells zero7 67))):=⟨fun _=>H11.o.sc.c2,HX11.o⟩
      refine hK.o _ _ HC11.o (fun hD2 hS2=>?_)
      clear hD hS hK K'
      have hD:=hD2
      have hS:=hS2
      clear hD2 hS2
      (try simp only[putL])
      refine on 7 hD fun K' hK=>?_
      refine saw rfl (.tmp 70) (.tmp 73) 29 rfl w0.heap.size 67 i1 _ 7 112 Tryz.underlying29 gi gz0 gz1 gz2 rfl (by decide) (.slice oa vs.length oc) vs.length (vs.flatMap cellsOf) rfl H11.o.oo ⟨w10.heap.size,0,none⟩ 1 1 [.int .i64 0,.int .i64 0,.int .i64 0,.string { data:=#[] },.slice none 0 0,.slice none 0 0,.slice none 0 0] rfl rfl ?hnews ?hone ?h63 ?hby ?hbs ?_
      case hnews =>
       intro j u hu
       rw[aa]
       show(w10.alloc (.cells zero7 67)).cell? ⟨w10.heap.size,j,none⟩=some u
       rw[ceb (bln w10 _)]
       unfold zero7
       simpa using hu
      case hone =>
       intro u hu
       simp at hu
       rcases hu with rfl | rfl | rfl<;>rfl
      case h63=>unfold maxLen;omega
      case hby=>omega
      case hbs=>exact H11.o.only.size
      intro v6 w6 own6 hg6 hw6
      obtain⟨gr,cr,hv6,hgr⟩:=owf own6 (by omega)
      subst hv6
      have hb6:=(hg6.block bs (lt_of_block H11.o.sc.blk) (fun e=>by have:=(H11.o.oo.lt _ e.symm).1;omega)).trans H11.o.sc.blk
      have hx6:=(hg6.block w5.heap.size (lt_of_block HX11.o) (fun e=>by have h1:=(HOWN.o.1 _ e.symm);omega)).trans HX11.o
      have hgx:gr≠w5.heap.size:=by
       rcases hw6 gr rfl with c | c
       ·have:=HOWN.o.1 _ c;omega
       ·have h3:w10.heap.size+1≤gr:=by simpa using c
        omega
      have hgb:gr≠bs:=by omega
      have hcz:∀ j u,([.int .i64 0,.int .i64 0,.int .i64 0,.string { data:=#[] },.slice none 0 0,.slice none 0 0,.slice none 0 0]:List Value)[j]?=some u→w6.cell? ⟨gr,vs.length*7+j,none⟩=some u:=fun j u hu=>by
       have hlen:(vs.flatMap cellsOf).length=vs.length*7:=H11.o.oo.1
       have:=own6.cells (g:=gr) rfl (vs.length*7+j) u (by rw[List.getElem?_append_right (by omega),hlen,Nat.add_sub_cancel_left];exact hu)
       rwa [aa]at this
      have z0:w6.cell? ⟨gr,vs.length*7,none⟩=some (.int .i64 0):=hcz 0 _ rfl
      have fz0:w6.frozen? ⟨gr,vs.length*7,none⟩=false:=own6.frozenAt _
      have z1:w6.cell? ⟨gr,vs.length*7+1,none⟩=some (.int .i64 0):=hcz 1 _ rfl
      have fz1:w6.frozen? ⟨gr,vs.length*7+1,none⟩=false:=own6.frozenAt _
      have z2:w6.cell? ⟨gr,vs.length*7+2,none⟩=some (.int .i64 0):=hcz 2 _ rfl
      have fz2:w6.frozen? ⟨gr,vs.length*7+2,none⟩=false:=own6.frozenAt _
      have z3:w6.cell? ⟨gr,vs.length*7+3,none⟩=some (.string { data:=#[] }):=hcz 3 _ rfl
      have fz3:w6.frozen? ⟨gr,vs.length*7+3,none⟩=false:=own6.frozenAt _
      have z4:w6.cell? ⟨gr,vs.length*7+4,none⟩=some (.slice none 0 0):=hcz 4 _ rfl
      have fz4:w6.frozen? ⟨gr,vs.length*7+4,none⟩=false:=own6.frozenAt _
      have z5:w6.cell? ⟨gr,vs.length*7+5,none⟩=some (.slice none 0 0):=hcz 5 _ rfl
      have fz5:w6.frozen? ⟨gr,vs.length*7+5,none⟩=false:=own6.frozenAt _
      have z6:w6.cell? ⟨gr,vs.length*7+6,none⟩=some (.slice none 0 0):=hcz 6 _ rfl
      have fz6:w6.frozen? ⟨gr,vs.length*7+6,none⟩=false:=own6.frozenAt _
      have hc6:w6.cell? ⟨bs,2,none⟩=some (.slice oa vs.length oc):=ceb hb6
      have hf6:w6.frozen? ⟨bs,2,none⟩=false:=frb hb6
      have HB6:=hide hb6
      have HX6:=hide hx6
      have OWN6:=hide own6
      have HG6:=hide hg6
      have HWH:=hide hw6
      clear own6 hg6 hw6 hb6 hx6 hcz HC HC11 HX11 HXa
      refine hK.o _ _ ⟨fun _=>hc6,HX6.o⟩ (fun hD2 hS2=>?_)
      clear hD hS hK K'
      have hD:=hD2
      have hS:=hS2
      clear hD2 hS2
      (try simp only[putL])
      refine tk 8 ?_ hD ?_ hS ?_
      rotate_left
      ·intro W hW;have hl9:(vs.length:Int)<(vs.length:Int)+1:=(by omega);go_simp;try(with_reducible rfl)
      clear hD hS;intro hD hS;(try simp only[putL])
      refine ti 10 ?_ hD hS ?_
      clear hD hS;intro hD hS;(try simp only[putL])
      refine ti 11 ?_ hD hS ?_
      clear hD hS;intro hD hS;(try simp only[putL])
      have HXV:Hid (VIn (fun g=>w0.heap.size≤g∧(Value.slice oa vs.length oc).ownBlock≠some g∧pv.ownBlock≠some g∧x4.ownBlock≠some g) 12 (w10.drew.alloc (.cells zero7 67)) (.agg #[.int .i64 s0,.int .i64 s1,.int .i64 s2,.string s3,.slice sa sl sc,.slice sa2 sl2 sc2,.slice sa3 sl3 sc3]) (show VT 12 from S)):=
       VIn.mono 12 (VIn.keep (w:=w10) 12 HVa.o (fun g _ hg2=>(((Below.refl w10.heap.size w10).drew).alloc (Nat.le_refl _) (.cells zero7 67)).block g hg2)) (fun g hg _=>⟨by omega,fun e=>by have:=HOWN.o.1 g e;omega,fun e=>by have:=HOWN.o.2.1 g e;omega,fun e=>by have:=HOWN.o.2.2 g e;omega⟩)
      refine wpATt (i:=9) (j:=12) (by kernel_rfl) rfl rfl hD (fun K' hK=>?_) (fun K' hK=>?_)
      ·go_simp
       have hoA:=only7o w6 gr (vs.length*7) (.int .i64 s0) (.int .i64 s1) (.int .i64 s2) (.string s3) (.slice sa sl sc) (.slice sa2 sl2 sc2) (.slice sa3 sl3 sc3)
       have hrA:=rl (a0:=.int .i64 s0) (a1:=.int .i64 s1) (a2:=.int .i64 s2) (a3:=.string s3) (a4:=.slice sa sl sc) (a5:=.slice sa2 sl2 sc2) (a6:=.slice sa3 sl3 sc3) OWN6.o H11.o.oo.1 rfl
       generalize (((((((w6.setCell ⟨gr,vs.length*7,none⟩ (.int .i64 s0)).setCell ⟨gr,vs.length*7+1,none⟩ (.int .i64 s1)).setCell ⟨gr,vs.length*7+2,none⟩ (.int .i64 s2)).setCell ⟨gr,vs.length*7+3,none⟩ (.string s3)).setCell ⟨gr,vs.length*7+4,none⟩ (.slice sa sl sc)).setCell ⟨gr,vs.length*7+5,none⟩ (.slice sa2 sl2 sc2)).setCell ⟨gr,vs.length*7+6,none⟩ (.slice sa3 sl3 sc3))=wA at *
       have hbA:=(hoA.1.block bs (lt_of_block HB6.o) (Ne.symm hgb)).trans HB6.o
       have hxA:=(hoA.1.block w5.heap.size (lt_of_block HX6.o) (Ne.symm hgx)).trans HX6.o
       have hcA:wA.cell? ⟨bs,2,none⟩=some (.slice oa vs.length oc):=ceb hbA
       have hfA:wA.frozen? ⟨bs,2,none⟩=false:=frb hbA
       have HBA:=hide hbA
       have HXA:=hide hxA
       have HOA:=hide hoA
       have HRA:=hide hrA
       clear hbA hxA hoA hrA z0 z1 z2 z3 z4 z5 z6 fz0 fz1 fz2 fz3 fz4 fz5 fz6 hc6 hf6
       refine hK.o _ _ ⟨fun _=>hcA,HXA.o⟩ (fun hD2 hS2=>?_)
       clear hD hS hK K'
       have hD:=hD2
       have hS:=hS2
       clear hD2 hS2
       (try simp only[putL])
       refine on 12 hD fun K' hK=>?_
       go_simp
       refine hK.o _ _ ⟨fun h9=>(by cases h9),by rw[bsCn _ (by show w5.heap.size≠bs;omega)];exact HXA.o⟩ (fun hD2 hS2=>?_)
       clear hD hS hK K'
       have hD:=hD2
       have hS:=hS2
       clear hD2 hS2
       (try simp only[putL])
       refine wATd (by kernel_rfl) ?_ _
       clear hD hS
       have hW6:∀ g,g≠bs→(Value.slice (some ⟨gr,0,none⟩) (vs.length+1) cr).ownBlock≠some g→(wA.setCell ⟨bs,2,none⟩ (.slice (some ⟨gr,0,none⟩) (vs.length+1) cr)).heap[g]?=w6.heap[g]?:=fun g h1 h2=>by
        rw[bsCn _ h1]
        rcases Nat.lt_or_ge g w6.heap.size with c | c
        ·exact HOA.o.1.block g c (fun e=>h2 (by rw[e];rfl))
        ·rw[Array.getElem?_eq_none (by rw[HOA.o.2];exact c),Array.getElem?_eq_none c]
       have H13:Hid (Fi w0 B bs ao cap data (wA.setCell ⟨bs,2,none⟩ (.slice (some ⟨gr,0,none⟩) (vs.length+1) cr)) q5 (.slice (some ⟨gr,0,none⟩) (vs.length+1) cr) pv x4 (vs++[.agg #[.int .i64 s0,.int .i64 s1,.int .i64 s2,.string s3,.slice sa sl sc,.slice sa2 sl2 sc2,.slice sa3 sl3 sc3]]) (Vs++[(show VT 12 from S)]) ps Ps pl):=
        H11.o.obj (w6:=w6) HXV.o HG6.o HWH.o (fun g hg=>(OWN6.o.lt g hg).1) HOA.o.1.os HOA.o.1.tape HOA.o.1.output (by simp[World.setCell];exact HOA.o.2) hW6 (by rw[bsC _ HBA.o];rfl) (ownsRow_setCell_below HRA.o (by show bs<w0.heap.size;omega) _)
       have HPk:Hid (PackIn (wA.setCell ⟨bs,2,none⟩ (.slice (some ⟨gr,0,none⟩) (vs.length+1) cr)) B l (.slice (some ⟨bd,od,none⟩) ln cd)):=HPa.o.keep (fun g hg=>(hW6 g (by omega) (fun e=>by have:=(OWN6.o.lt g e).1;omega)).trans ((HG6.o.block g (Nat.lt_of_lt_of_le (show g<w10.heap.size by omega) ((Below.refl w10.heap.size w10).drew.alloc (Nat.le_refl _) (.cells zero7 67)).size) (fun e=>by have:=(HFa.o.oo.lt g e.symm).1;omega)).trans (((Below.refl w10.heap.size w10).drew.alloc (Nat.le_refl _) (.cells zero7 67)).block g (by show g<w10.heap.size;omega))))
       generalize wA.setCell ⟨bs,2,none⟩ (.slice (some ⟨gr,0,none⟩) (vs.length+1) cr)=w13 at *
       clear hW6 HBA HXA HOA HRA hcA hfA HXV HB6 HX6 OWN6 HG6 HWH H11 HVa HPa HFa
       have hB13:w0.heap.size≤w13.heap.size:=H13.o.only.size
       have c3:w13.cell? ⟨bs,3,none⟩=some pv:=H13.o.sc.c3
       obtain⟨qa,qc,hpv⟩:=ows H13.o.op
       subst hpv
       go_wp2_with (at_builtin;refine wpList_append_where rfl (.tmp 82) (.tmp 84) 42 rfl w0.heap.size 23 i2 (.slice none 0 0) 1 24 Tryz.underlying42 bi bz0 bz1 bz2 rfl (by decide) (.slice qa ps.length qc) ps.length ps rfl (H13.o.alloc _).op ⟨w13.heap.size,0,none⟩ 1 1 [.slice (some ⟨bd,od,none⟩) ln cd] rfl rfl (fun j u hu=>by rw[aa,ceb (bln w13 _)];simpa using hu) (by intro u hu;simp at hu;subst hu;rfl) (by unfold maxLen;omega) (by omega) (by simp;omega) ?_)
       intro v9 w14 own9 hg9 hw9
       have H14:=hide ((H13.o.alloc _).pack (HPk.o.keep (fun g hg=>((Below.refl w13.heap.size w13).alloc (Nat.le_refl _) _).block g (by omega))) own9 hg9 (fun g hg=>by have:=hw9 g hg;simpa using this))
       have hv9:=(hg9.block bs (lt_of_block (H13.o.alloc _).sc.blk) (fun e=>by have:=(H13.o.op.lt _ e.symm).1;omega)).trans (H13.o.alloc _).sc.blk
       have hc9:w14.cell? ⟨bs,3,none⟩=some (.slice qa ps.length qc):=ceb hv9
       have hf9:w14.frozen? ⟨bs,3,none⟩=false:=frb hv9
       obtain⟨a9,c9,hv9s⟩:=ows own9
       subst hv9s
       clear own9 hg9 hw9 hv9
       go_wp2
       go_end0
       exact .some_ HR.o.symm ⟨_,_,_,_,_,HPL.o▸H14.o⟩
      ·go_simp
       have hoB:Only bs w6 (w6.setCell ⟨bs,2,none⟩ (.slice (some ⟨gr,0,none⟩) (vs.length+1) cr)):=(Only.refl bs w6).setCell 2 _
       have hzB:(w6.setCell ⟨bs,2,none⟩ (.slice (some ⟨gr,0,none⟩) (vs.length+1) cr)).heap.size=w6.heap.size:=by simp[World.setCell]
       have hbB:(w6.setCell ⟨bs,2,none⟩ (.slice (some ⟨gr,0,none⟩) (vs.length+1) cr)).heap[bs]?=some (.cells #[.slice ao data.length cap,.int .i64 (data.length-q5.length:Nat),.slice (some ⟨gr,0,none⟩) (vs.length+1) cr,pv,x4] 131 (0,0)):=by rw[bsC _ HB6.o];rfl
       have hrB:=ownsRow_setCell_below OWN6.o (a:=⟨bs,2,none⟩) (by show bs<w0.heap.size;omega) (.slice (some ⟨gr,0,none⟩) (vs.length+1) cr)
       generalize w6.setCell ⟨bs,2,none⟩ (.slice (some ⟨gr,0,none⟩) (vs.length+1) cr)=wB at *
       have hgl:gr<w6.heap.size:=(OWN6.o.lt gr rfl).2
       have hxB:=(hoB.block w5.heap.size (lt_of_block HX6.o) (by omega)).trans HX6.o
       have y0:=ces z0 (hoB.block gr hgl hgb)
       have g0:wB.frozen? ⟨gr,vs.length*7,none⟩=false:=hrB.frozenAt _
       have y1:=ces z1 (hoB.block gr hgl hgb)
       have g1:wB.frozen? ⟨gr,vs.length*7+1,none⟩=false:=hrB.frozenAt _
       have y2:=ces z2 (hoB.block gr hgl hgb)
       have g2:wB.frozen? ⟨gr,vs.length*7+2,none⟩=false:=hrB.frozenAt _
       have y3:=ces z3 (hoB.block gr hgl hgb)
       have g3:wB.frozen? ⟨gr,vs.length*7+3,none⟩=false:=hrB.frozenAt _
       have y4:=ces z4 (hoB.block gr hgl hgb)
       have g4:wB.frozen? ⟨gr,vs.length*7+4,none⟩=false:=hrB.frozenAt _
       have y5:=ces z5 (hoB.block gr hgl hgb)
       have g5:wB.frozen? ⟨gr,vs.length*7+5,none⟩=false:=hrB.frozenAt _
       have y6:=ces z6 (hoB.block gr hgl hgb)
       have g6:wB.frozen? ⟨gr,vs.length*7+6,none⟩=false:=hrB.frozenAt _
       have HXB:=hide hxB
       have HBB:=hide hbB
       have HOB:=hide hoB
       have HRB:=hide hrB
       have HZB:=hide hzB
       clear hxB hbB hoB hrB hzB z0 z1 z2 z3 z4 z5 z6 fz0 fz1 fz2 fz3 fz4 fz5 fz6 hc6 hf6
       refine hK.o _ _ ⟨fun h9=>(by cases h9),HXB.o⟩ (fun hD2 hS2=>?_)
       clear hD hS hK K'
       have hD:=hD2
       have hS:=hS2
       clear hD2 hS2
       (try simp only[putL])
       refine on 9 hD fun K' hK=>?_
       go_simp
       have hoA:=only7o wB gr (vs.length*7) (.int .i64 s0) (.int .i64 s1) (.int .i64 s2) (.string s3) (.slice sa sl sc) (.slice sa2 sl2 sc2) (.slice sa3 sl3 sc3)
       have hrA:=rl (a0:=.int .i64 s0) (a1:=.int .i64 s1) (a2:=.int .i64 s2) (a3:=.string s3) (a4:=.slice sa sl sc) (a5:=.slice sa2 sl2 sc2) (a6:=.slice sa3 sl3 sc3) HRB.o H11.o.oo.1 rfl
       generalize (((((((wB.setCell ⟨gr,vs.length*7,none⟩ (.int .i64 s0)).setCell ⟨gr,vs.length*7+1,none⟩ (.int .i64 s1)).setCell ⟨gr,vs.length*7+2,none⟩ (.int .i64 s2)).setCell ⟨gr,vs.length*7+3,none⟩ (.string s3)).setCell ⟨gr,vs.length*7+4,none⟩ (.slice sa sl sc)).setCell ⟨gr,vs.length*7+5,none⟩ (.slice sa2 sl2 sc2)).setCell ⟨gr,vs.length*7+6,none⟩ (.slice sa3 sl3 sc3))=wA at *
       have HOA:=hide hoA
       have HRA:=hide hrA
       clear hoA hrA y0 y1 y2 y3 y4 y5 y6 g0 g1 g2 g3 g4 g5 g6
       refine hK.o _ _ ⟨fun h9=>(by cases h9),(HOA.o.1.block w5.heap.size (lt_of_block HXB.o) (Ne.symm hgx)).trans HXB.o⟩ (fun hD2 hS2=>?_)
       clear hD hS hK K'
       have hD:=hD2
       have hS:=hS2
       clear hD2 hS2
       (try simp only[putL])
       refine wATd (by kernel_rfl) ?_ _
       clear hD hS
       have hW6:∀ g,g≠bs→(Value.slice (some ⟨gr,0,none⟩) (vs.length+1) cr).ownBlock≠some g→wA.heap[g]?=w6.heap[g]?:=fun g h1 h2=>by
        rcases Nat.lt_or_ge g w6.heap.size with c | c
        ·exact(HOA.o.1.block g (by rw[HZB.o];exact c) (fun e=>h2 (by rw[e];rfl))).trans (HOB.o.block g c h1)
        ·rw[Array.getElem?_eq_none (by rw[HOA.o.2,HZB.o];exact c),Array.getElem?_eq_none c]
       have H13:Hid (Fi w0 B bs ao cap data wA q5 (.slice (some ⟨gr,0,none⟩) (vs.length+1) cr) pv x4 (vs++[.agg #[.int .i64 s0,.int .i64 s1,.int .i64 s2,.string s3,.slice sa sl sc,.slice sa2 sl2 sc2,.slice sa3 sl3 sc3]]) (Vs++[(show VT 12 from S)]) ps Ps pl):=
        H11.o.obj (w6:=w6) HXV.o HG6.o HWH.o (fun g hg=>(OWN6.o.lt g hg).1) (HOA.o.1.os.trans HOB.o.os) (HOA.o.1.tape.trans HOB.o.tape) (HOA.o.1.output.trans HOB.o.output) (HOA.o.2.trans HZB.o) hW6 ((HOA.o.1.block bs (lt_of_block HBB.o) (Ne.symm hgb)).trans HBB.o) HRA.o
       have HPk:Hid (PackIn wA B l (.slice (some ⟨bd,od,none⟩) ln cd)):=HPa.o.keep (fun g hg=>(hW6 g (by omega) (fun e=>by have:=(OWN6.o.lt g e).1;omega)).trans ((HG6.o.block g (Nat.lt_of_lt_of_le (show g<w10.heap.size by omega) ((Below.refl w10.heap.size w10).drew.alloc (Nat.le_refl _) (.cells zero7 67)).size) (fun e=>by have:=(HFa.o.oo.lt g e.symm).1;omega)).trans (((Below.refl w10.heap.size w10).drew.alloc (Nat.le_refl _) (.cells zero7 67)).block g (by show g<w10.heap.size;omega))))
       obtain⟨w13,hw13⟩:∃ w13,wA=w13:=⟨_,rfl⟩
       subst hw13
       have w13:=wA
       clear w13
       clear hW6 HOA HRA HXV HB6 HX6 OWN6 HG6 HWH H11 HVa HPa HFa HBB HXB HOB HRB HZB
       have hB13:w0.heap.size≤wA.heap.size:=H13.o.only.size
       have c3:wA.cell? ⟨bs,3,none⟩=some pv:=H13.o.sc.c3
       obtain⟨qa,qc,hpv⟩:=ows H13.o.op
       subst hpv
       go_wp2_with (at_builtin;refine wpList_append_where rfl (.tmp 82) (.tmp 84) 42 rfl w0.heap.size 23 i2 (.slice none 0 0) 1 24 Tryz.underlying42 bi bz0 bz1 bz2 rfl (by decide) (.slice qa ps.length qc) ps.length ps rfl (H13.o.alloc _).op ⟨wA.heap.size,0,none⟩ 1 1 [.slice (some ⟨bd,od,none⟩) ln cd] rfl rfl (fun j u hu=>by rw[aa,ceb (bln wA _)];simpa using hu) (by intro u hu;simp at hu;subst hu;rfl) (by unfold maxLen;omega) (by omega) (by simp;omega) ?_)
       intro v9 w14 own9 hg9 hw9
       have H14:=hide ((H13.o.alloc _).pack (HPk.o.keep (fun g hg=>((Below.refl wA.heap.size wA).alloc (Nat.le_refl _) _).block g (by omega))) own9 hg9 (fun g hg=>by have:=hw9 g hg;simpa using this))
       have hv9:=(hg9.block bs (lt_of_block (H13.o.alloc _).sc.blk) (fun e=>by have:=(H13.o.op.lt _ e.symm).1;omega)).trans (H13.o.alloc _).sc.blk
       have hc9:w14.cell? ⟨bs,3,none⟩=some (.slice qa ps.length qc):=ceb hv9
       have hf9:w14.frozen? ⟨bs,3,none⟩=false:=frb hv9
       obtain⟨a9,c9,hv9s⟩:=ows own9
       subst hv9s
       clear own9 hg9 hw9 hv9
       go_wp2
       go_end0
       exact .some_ HR.o.symm ⟨_,_,_,_,_,HPL.o▸H14.o⟩
  ·rw[if_neg h7]at HR
   simp only[]at HR
   have tk7:(k0==7)=false:=by rw[hkd];simp;omega
   have HFt:=H8
   have HVt:=HV8
   have HXt:=HX8
   clear H8 HV8 HX8 h7 hkd
   have HPt:Hid (PackIn w8 B [] (.slice none 0 0)):=Or.inl ⟨rfl,rfl⟩
   have HTE:=hide (sWo HFt.o.sc { data:=#[101,110,100,111,98,106] })
   rw[show bl { data:=#[101,110,100,111,98,106] }=[101,110,100,111,98,106]from rfl]at HTE
   cases e6:Fo.takesWord [101,110,100,111,98,106] q4 with
   |none =>
    rw[e6]at HTE HR
    have HRN:Hid (R=none):=HR.o.symm
    clear HR
    go_wp2_with fail
    try rw[HW8.o]
    refine HTE.o.mono ?_
    rintro e w10 ⟨rfl,h10,o10⟩
    have K10:=hide (HFt.o.only.trans o10)
    clear h10 o10
    go_wp2_with fail
    refine(sn _).mono ?_
    rintro e w' ⟨rfl,hw⟩
    have hw:=hw.symm
    subst hw
    exact⟨rfl,.none_ HRN.o K10.o⟩
   |some q5 =>
    have hq5:=Fo.takesWord_len e6
    rw[e6]at HTE HR
    simp only[]at HR
    clear e6
    go_wp2_with fail
    try rw[HW8.o]
    refine HTE.o.mono ?_
    rintro e w10 ⟨rfl,h10,o10⟩
    have HFa:=hide (HFt.o.step (show Sc B bs ao cap data _ _ _ w10 q5 from h10) o10)
    have HVa:=hide (VIn.only HVt.o (fun g hg=>by omega) o10)
    have HXa:Hid (w10.heap[w5.heap.size]?=some (.cells #[.int .i64 k0,.int .i64 k1,.int .i64 k2,.string k3,.slice ja jl jc,.slice ka2 kl kc2,.slice fa2 fl fc2] 67 (0,0))):=by unfold Hid;rw[o10.block _ (lt_of_block HXt.o) (by omega)];exact HXt.o
    have HPa:Hid (PackIn w10 B [] (.slice none 0 0)):=HPt.o.keep (fun g hg=>o10.block g (by have:=HFt.o.sc.env;omega) (by omega))
    clear h10 o10 HTE HFt HVt HXt HPt
    go_wp2_with fail
    refine(smy _).mono ?_
    rintro e w' ⟨rfl,hw⟩
    have hw:=hw.symm
    subst hw
    have hsz10:w5.heap.size<w10.heap.size:=lt_of_block HXa.o
    obtain⟨oa,oc,hov⟩:=ows HFa.o.oo
    have HC:Hid (SO 12 ⟨bs,2,none⟩ ov w5.heap.size #[.int .i64 k0,.int .i64 k1,.int .i64 k2,.string k3,.slice ja jl jc,.slice ka2 kl kc2,.slice fa2 fl fc2] (Array.replicate 13 false) w10.drew):=⟨fun _=>HFa.o.drew.sc.c2,HXa.o⟩
    go_wp2_with fail
    refine wrT (SO 12 ⟨bs,2,none⟩ ov w5.heap.size #[.int .i64 k0,.int .i64 k1,.int .i64 k2,.string k3,.slice ja jl jc,.slice ka2 kl kc2,.slice fa2 fl fc2]) (by kernel_rfl) ?_
    intro hD
    have hS:=HC.o
    refine ti 0 ?_ hD hS ?_
    clear hD hS;intro hD hS;(try simp only[putL])
    refine ti 1 ?_ hD hS ?_
    clear hD hS;intro hD hS;(try simp only[putL])
    refine ti 2 ?_ hD hS ?_
    clear hD hS;intro hD hS;(try simp only[putL])
    refine tk 3 ?_ hD ?_ hS ?_
    rotate_left
    ·intro W hW;obtain⟨L,hDs,hL,hSL⟩:=hW;have hcl:=hSL.1 (by cases h9:L.getD 12 false with | false=>rfl | true=>exact absurd (hDs.came 3 12 (by kernel_rfl) h9) (by rw[gDiX hL];decide));go_simp;try(with_reducible rfl)
    clear hD hS;intro hD hS;(try simp only[putL])
    refine tk 4 ?_ hD ?_ hS ?_
    rotate_left
    ·intro W hW;obtain⟨L,hDs,hL,hSL⟩:=hW;have hbk:=hSL.2;have e0:W.cell? ⟨w5.heap.size,0,none⟩=some (.int .i64 k0):=ceb hbk
     have e1:W.cell? ⟨w5.heap.size,1,none⟩=some (.int .i64 k1):=ceb hbk
     have e2:W.cell? ⟨w5.heap.size,2,none⟩=some (.int .i64 k2):=ceb hbk
     have e3:W.cell? ⟨w5.heap.size,3,none⟩=some (.string k3):=ceb hbk
     have e4:W.cell? ⟨w5.heap.size,4,none⟩=some (.slice ja jl jc):=ceb hbk
     have e5:W.cell? ⟨w5.heap.size,5,none⟩=some (.slice ka2 kl kc2):=ceb hbk
     have e6:W.cell? ⟨w5.heap.size,6,none⟩=some (.slice fa2 fl fc2):=ceb hbk
     go_simp;try(with_reducible rfl)
    clear hD hS;intro hD hS;(try simp only[putL])
    subst hov
    refine ti 5 ?_ hD hS ?_
    clear hD hS;intro hD hS;(try simp only[putL])
    refine on 6 hD fun K' hK=>?_
    go_simp
    have H11:=hide (HFa.o.drew.alloc (.cells zero7 67))
    have HX11:Hid ((w10.drew.alloc (.cells zero7 67)).heap[w5.heap.size]?=some (.cells #[.int .i64 k0,.int .i64 k1,.int .i64 k2,.string k3,.slice ja jl jc,.slice ka2 kl kc2,.slice fa2 fl fc2] 67 (0,0))):=bla _ HXa.o
    have HC11:Hid (SO 12 ⟨bs,2,none⟩ (.slice oa vs.length oc) w5.heap.size #[.int .i64 k0,.int .i64 k1,.int .i64 k2,.string k3,.slice ja jl jc,.slice ka2 kl kc2,.slice fa2 fl fc2] #[true,true,true,true,true,true,true,false,false,false,false,false,false] (w10.drew.alloc (.cells zero7 67))):=⟨fun _=>H11.o.sc.c2,HX11.o⟩
    refine hK.o _ _ HC11.o (fun hD2 hS2=>?_)
    clear hD hS hK K'
    have hD:=hD2
    have hS:=hS2
    clear hD2 hS2
    (try simp only[putL])
    refine on 7 hD fun K' hK=>?_
    refine saw rfl (.tmp 70) (.tmp 73) 29 rfl w0.heap.size 67 i1 _ 7 112 Tryz.underlying29 gi gz0 gz1 gz2 rfl (by decide) (.slice oa vs.length oc) vs.length (vs.flatMap cellsOf) rfl H11.o.oo ⟨w10.heap.size,0,none⟩ 1 1 [.int .i64 0,.int .i64 0,.int .i64 0,.string { data:=#[] },.slice none 0 0,.slice none 0 0,.slice none 0 0] rfl rfl ?hnews ?hone ?h63 ?hby ?hbs ?_
    case hnews =>
     intro j u hu
     rw[aa]
     show(w10.alloc (.cells zero7 67)).cell? ⟨w10.heap.size,j,none⟩=some u
     rw[ceb (bln w10 _)]
     unfold zero7
     simpa using hu
    case hone =>
     intro u hu
     simp at hu
     rcases hu with rfl | rfl | rfl<;>rfl
    case h63=>unfold maxLen;omega
    case hby=>omega
    case hbs=>exact H11.o.only.size
    intro v6 w6 own6 hg6 hw6
    obtain⟨gr,cr,hv6,hgr⟩:=owf own6 (by omega)
    subst hv6
    have hb6:=(hg6.block bs (lt_of_block H11.o.sc.blk) (fun e=>by have:=(H11.o.oo.lt _ e.symm).1;omega)).trans H11.o.sc.blk
    have hx6:=(hg6.block w5.heap.size (lt_of_block HX11.o) (fun e=>by have h1:=(HOWN.o.1 _ e.symm);omega)).trans HX11.o
    have hgx:gr≠w5.heap.size:=by
     rcases hw6 gr rfl with c | c
     ·have:=HOWN.o.1 _ c;omega
     ·have h3:w10.heap.size+1≤gr:=by simpa using c
      omega
    have hgb:gr≠bs:=by omega
    have hcz:∀ j u,([.int .i64 0,.int .i64 0,.int .i64 0,.string { data:=#[] },.slice none 0 0,.slice none 0 0,.slice none 0 0]:List Value)[j]?=some u→w6.cell? ⟨gr,vs.length*7+j,none⟩=some u:=fun j u hu=>by
     have hlen:(vs.flatMap cellsOf).length=vs.length*7:=H11.o.oo.1
     have:=own6.cells (g:=gr) rfl (vs.length*7+j) u (by rw[List.getElem?_append_right (by omega),hlen,Nat.add_sub_cancel_left];exact hu)
     rwa [aa]at this
    have z0:w6.cell? ⟨gr,vs.length*7,none⟩=some (.int .i64 0):=hcz 0 _ rfl
    have fz0:w6.frozen? ⟨gr,vs.length*7,none⟩=false:=own6.frozenAt _
    have z1:w6.cell? ⟨gr,vs.length*7+1,none⟩=some (.int .i64 0):=hcz 1 _ rfl
    have fz1:w6.frozen? ⟨gr,vs.length*7+1,none⟩=false:=own6.frozenAt _
    have z2:w6.cell? ⟨gr,vs.length*7+2,none⟩=some (.int .i64 0):=hcz 2 _ rfl
    have fz2:w6.frozen? ⟨gr,vs.length*7+2,none⟩=false:=own6.frozenAt _
    have z3:w6.cell? ⟨gr,vs.length*7+3,none⟩=some (.string { data:=#[] }):=hcz 3 _ rfl
    have fz3:w6.frozen? ⟨gr,vs.length*7+3,none⟩=false:=own6.frozenAt _
    have z4:w6.cell? ⟨gr,vs.length*7+4,none⟩=some (.slice none 0 0):=hcz 4 _ rfl
    have fz4:w6.frozen? ⟨gr,vs.length*7+4,none⟩=false:=own6.frozenAt _
    have z5:w6.cell? ⟨gr,vs.length*7+5,none⟩=some (.slice none 0 0):=hcz 5 _ rfl
    have fz5:w6.frozen? ⟨gr,vs.length*7+5,none⟩=false:=own6.frozenAt _
    have z6:w6.cell? ⟨gr,vs.length*7+6,none⟩=some (.slice none 0 0):=hcz 6 _ rfl
    have fz6:w6.frozen? ⟨gr,vs.length*7+6,none⟩=false:=own6.frozenAt _
    have hc6:w6.cell? ⟨bs,2,none⟩=some (.slice oa vs.length oc):=ceb hb6
    have hf6:w6.frozen? ⟨bs,2,none⟩=false:=frb hb6
    have HB6:=hide hb6
    have HX6:=hide hx6
    have OWN6:=hide own6
    have HG6:=hide hg6
    have HWH:=hide hw6
    clear own6 hg6 hw6 hb6 hx6 hcz HC HC11 HX11 HXa
    refine hK.o _ _ ⟨fun _=>hc6,HX6.o⟩ (fun hD2 hS2=>?_)
    clear hD hS hK K'
    have hD:=hD2
    have hS:=hS2
    clear hD2 hS2
    (try simp only[putL])
    refine tk 8 ?_ hD ?_ hS ?_
    rotate_left
    ·intro W hW;have hl9:(vs.length:Int)<(vs.length:Int)+1:=(by omega);go_simp;try(with_reducible rfl)
    clear hD hS;intro hD hS;(try simp only[putL])
    refine ti 10 ?_ hD hS ?_
    clear hD hS;intro hD hS;(try simp only[putL])
    refine ti 11 ?_ hD hS ?_
    clear hD hS;intro hD hS;(try simp only[putL])
    have HXV:Hid (VIn (fun g=>w0.heap.size≤g∧(Value.slice oa vs.length oc).ownBlock≠some g∧pv.ownBlock≠some g∧x4.ownBlock≠some g) 12 (w10.drew.alloc (.cells zero7 67)) (.agg #[.int .i64 k0,.int .i64 k1,.int .i64 k2,.string k3,.slice ja jl jc,.slice ka2 kl kc2,.slice fa2 fl fc2]) V):=
     VIn.mono 12 (VIn.keep (w:=w10) 12 HVa.o (fun g _ hg2=>(((Below.refl w10.heap.size w10).drew).alloc (Nat.le_refl _) (.cells zero7 67)).block g hg2)) (fun g hg _=>⟨by omega,fun e=>by have:=HOWN.o.1 g e;omega,fun e=>by have:=HOWN.o.2.1 g e;omega,fun e=>by have:=HOWN.o.2.2 g e;omega⟩)
    refine wpATt (i:=9) (j:=12) (by kernel_rfl) rfl rfl hD (fun K' hK=>?_) (fun K' hK=>?_)
    ·go_simp
     have hoA:=only7o w6 gr (vs.length*7) (.int .i64 k0) (.int .i64 k1) (.int .i64 k2) (.string k3) (.slice ja jl jc) (.slice ka2 kl kc2) (.slice fa2 fl fc2)
     have hrA:=rl (a0:=.int .i64 k0) (a1:=.int .i64 k1) (a2:=.int .i64 k2) (a3:=.string k3) (a4:=.slice ja jl jc) (a5:=.slice ka2 kl kc2) (a6:=.slice fa2 fl fc2) OWN6.o H11.o.oo.1 rfl
     generalize (((((((w6.setCell ⟨gr,vs.length*7,none⟩ (.int .i64 k0)).setCell ⟨gr,vs.length*7+1,none⟩ (.int .i64 k1)).setCell ⟨gr,vs.length*7+2,none⟩ (.int .i64 k2)).setCell ⟨gr,vs.length*7+3,none⟩ (.string k3)).setCell ⟨gr,vs.length*7+4,none⟩ (.slice ja jl jc)).setCell ⟨gr,vs.length*7+5,none⟩ (.slice ka2 kl kc2)).setCell ⟨gr,vs.length*7+6,none⟩ (.slice fa2 fl fc2))=wA at *
     have hbA:=(hoA.1.block bs (lt_of_block HB6.o) (Ne.symm hgb)).trans HB6.o
     have hxA:=(hoA.1.block w5.heap.size (lt_of_block HX6.o) (Ne.symm hgx)).trans HX6.o
     have hcA:wA.cell? ⟨bs,2,none⟩=some (.slice oa vs.length oc):=ceb hbA
     have hfA:wA.frozen? ⟨bs,2,none⟩=false:=frb hbA
     have HBA:=hide hbA
     have HXA:=hide hxA
     have HOA:=hide hoA
     have HRA:=hide hrA
     clear hbA hxA hoA hrA z0 z1 z2 z3 z4 z5 z6 fz0 fz1 fz2 fz3 fz4 fz5 fz6 hc6 hf6
     refine hK.o _ _ ⟨fun _=>hcA,HXA.o⟩ (fun hD2 hS2=>?_)
     clear hD hS hK K'
     have hD:=hD2
     have hS:=hS2
     clear hD2 hS2
     (try simp only[putL])
     refine on 12 hD fun K' hK=>?_
     go_simp
     refine hK.o _ _ ⟨fun h9=>(by cases h9),by rw[bsCn _ (by show w5.heap.size≠bs;omega)];exact HXA.o⟩ (fun hD2 hS2=>?_)
     clear hD hS hK K'
     have hD:=hD2
     have hS:=hS2
     clear hD2 hS2
     (try simp only[putL])
     refine wATd (by kernel_rfl) ?_ _
     clear hD hS
     have hW6:∀ g,g≠bs→(Value.slice (some ⟨gr,0,none⟩) (vs.length+1) cr).ownBlock≠some g→(wA.setCell ⟨bs,2,none⟩ (.slice (some ⟨gr,0,none⟩) (vs.length+1) cr)).heap[g]?=w6.heap[g]?:=fun g h1 h2=>by
      rw[bsCn _ h1]
      rcases Nat.lt_or_ge g w6.heap.size with c | c
      ·exact HOA.o.1.block g c (fun e=>h2 (by rw[e];rfl))
      ·rw[Array.getElem?_eq_none (by rw[HOA.o.2];exact c),Array.getElem?_eq_none c]
     have H13:Hid (Fi w0 B bs ao cap data (wA.setCell ⟨bs,2,none⟩ (.slice (some ⟨gr,0,none⟩) (vs.length+1) cr)) q5 (.slice (some ⟨gr,0,none⟩) (vs.length+1) cr) pv x4 (vs++[.agg #[.int .i64 k0,.int .i64 k1,.int .i64 k2,.string k3,.slice ja jl jc,.slice ka2 kl kc2,.slice fa2 fl fc2]]) (Vs++[V]) ps Ps pl):=
      H11.o.obj (w6:=w6) HXV.o HG6.o HWH.o (fun g hg=>(OWN6.o.lt g hg).1) HOA.o.1.os HOA.o.1.tape HOA.o.1.output (by simp[World.setCell];exact HOA.o.2) hW6 (by rw[bsC _ HBA.o];rfl) (ownsRow_setCell_below HRA.o (by show bs<w0.heap.size;omega) _)
     have HPk:Hid (PackIn (wA.setCell ⟨bs,2,none⟩ (.slice (some ⟨gr,0,none⟩) (vs.length+1) cr)) B [] (.slice none 0 0)):=HPa.o.keep (fun g hg=>(hW6 g (by omega) (fun e=>by have:=(OWN6.o.lt g e).1;omega)).trans ((HG6.o.block g (Nat.lt_of_lt_of_le (show g<w10.heap.size by omega) ((Below.refl w10.heap.size w10).drew.alloc (Nat.le_refl _) (.cells zero7 67)).size) (fun e=>by have:=(HFa.o.oo.lt g e.symm).1;omega)).trans (((Below.refl w10.heap.size w10).drew.alloc (Nat.le_refl _) (.cells zero7 67)).block g (by show g<w10.heap.size;omega))))
     generalize wA.setCell ⟨bs,2,none⟩ (.slice (some ⟨gr,0,none⟩) (vs.length+1) cr)=w13 at *
     clear hW6 HBA HXA HOA HRA hcA hfA HXV HB6 HX6 OWN6 HG6 HWH H11 HVa HPa HFa
     have hB13:w0.heap.size≤w13.heap.size:=H13.o.only.size
     have c3:w13.cell? ⟨bs,3,none⟩=some pv:=H13.o.sc.c3
     obtain⟨qa,qc,hpv⟩:=ows H13.o.op
     subst hpv
     go_wp2_with (at_builtin;refine wpList_append_where rfl (.tmp 82) (.tmp 84) 42 rfl w0.heap.size 23 i2 (.slice none 0 0) 1 24 Tryz.underlying42 bi bz0 bz1 bz2 rfl (by decide) (.slice qa ps.length qc) ps.length ps rfl (H13.o.alloc _).op ⟨w13.heap.size,0,none⟩ 1 1 [.slice none 0 0] rfl rfl (fun j u hu=>by rw[aa,ceb (bln w13 _)];simpa using hu) (by intro u hu;simp at hu;subst hu;rfl) (by unfold maxLen;omega) (by omega) (by simp;omega) ?_)
     intro v9 w14 own9 hg9 hw9
     have H14:=hide ((H13.o.alloc _).pack (HPk.o.keep (fun g hg=>((Below.refl w13.heap.size w13).alloc (Nat.le_refl _) _).block g (by omega))) own9 hg9 (fun g hg=>by have:=hw9 g hg;simpa using this))
     have hv9:=(hg9.block bs (lt_of_block (H13.o.alloc _).sc.blk) (fun e=>by have:=(H13.o.op.lt _ e.symm).1;omega)).trans (H13.o.alloc _).sc.blk
     have hc9:w14.cell? ⟨bs,3,none⟩=some (.slice qa ps.length qc):=ceb hv9
     have hf9:w14.frozen? ⟨bs,3,none⟩=false:=frb hv9
     obtain⟨a9,c9,hv9s⟩:=ows own9
     subst hv9s
     clear own9 hg9 hw9 hv9
     go_wp2
     go_end0
     exact .some_ HR.o.symm ⟨_,_,_,_,_,HPL.o▸H14.o⟩
    ·go_simp
     have hoB:Only bs w6 (w6.setCell ⟨bs,2,none⟩ (.slice (some ⟨gr,0,none⟩) (vs.length+1) cr)):=(Only.refl bs w6).setCell 2 _
     have hzB:(w6.setCell ⟨bs,2,none⟩ (.slice (some ⟨gr,0,none⟩) (vs.length+1) cr)).heap.size=w6.heap.size:=by simp[World.setCell]
     have hbB:(w6.setCell ⟨bs,2,none⟩ (.slice (some ⟨gr,0,none⟩) (vs.length+1) cr)).heap[bs]?=some (.cells #[.slice ao data.length cap,.int .i64 (data.length-q5.length:Nat),.slice (some ⟨gr,0,none⟩) (vs.length+1) cr,pv,x4] 131 (0,0)):=by rw[bsC _ HB6.o];rfl
     have hrB:=ownsRow_setCell_below OWN6.o (a:=⟨bs,2,none⟩) (by show bs<w0.heap.size;omega) (.slice (some ⟨gr,0,none⟩) (vs.length+1) cr)
     generalize w6.setCell ⟨bs,2,none⟩ (.slice (some ⟨gr,0,none⟩) (vs.length+1) cr)=wB at *
     have hgl:gr<w6.heap.size:=(OWN6.o.lt gr rfl).2
     have hxB:=(hoB.block w5.heap.size (lt_of_block HX6.o) (by omega)).trans HX6.o
     have y0:=ces z0 (hoB.block gr hgl hgb)
     have g0:wB.frozen? ⟨gr,vs.length*7,none⟩=false:=hrB.frozenAt _
     have y1:=ces z1 (hoB.block gr hgl hgb)
     have g1:wB.frozen? ⟨gr,vs.length*7+1,none⟩=false:=hrB.frozenAt _
     have y2:=ces z2 (hoB.block gr hgl hgb)
     have g2:wB.frozen? ⟨gr,vs.length*7+2,none⟩=false:=hrB.frozenAt _
     have y3:=ces z3 (hoB.block gr hgl hgb)
     have g3:wB.frozen? ⟨gr,vs.length*7+3,none⟩=false:=hrB.frozenAt _
     have y4:=ces z4 (hoB.block gr hgl hgb)
     have g4:wB.frozen? ⟨gr,vs.length*7+4,none⟩=false:=hrB.frozenAt _
     have y5:=ces z5 (hoB.block gr hgl hgb)
     have g5:wB.frozen? ⟨gr,vs.length*7+5,none⟩=false:=hrB.frozenAt _
     have y6:=ces z6 (hoB.block gr hgl hgb)
     have g6:wB.frozen? ⟨gr,vs.length*7+6,none⟩=false:=hrB.frozenAt _
     have HXB:=hide hxB
     have HBB:=hide hbB
     have HOB:=hide hoB
     have HRB:=hide hrB
     have HZB:=hide hzB
     clear hxB hbB hoB hrB hzB z0 z1 z2 z3 z4 z5 z6 fz0 fz1 fz2 fz3 fz4 fz5 fz6 hc6 hf6
     refine hK.o _ _ ⟨fun h9=>(by cases h9),HXB.o⟩ (fun hD2 hS2=>?_)
     clear hD hS hK K'
     have hD:=hD2
     have hS:=hS2
     clear hD2 hS2
     (try simp only[putL])
     refine on 9 hD fun K' hK=>?_
     go_simp
     have hoA:=only7o wB gr (vs.length*7) (.int .i64 k0) (.int .i64 k1) (.int .i64 k2) (.string k3) (.slice ja jl jc) (.slice ka2 kl kc2) (.slice fa2 fl fc2)
     have hrA:=rl (a0:=.int .i64 k0) (a1:=.int .i64 k1) (a2:=.int .i64 k2) (a3:=.string k3) (a4:=.slice ja jl jc) (a5:=.slice ka2 kl kc2) (a6:=.slice fa2 fl fc2) HRB.o H11.o.oo.1 rfl
     generalize (((((((wB.setCell ⟨gr,vs.length*7,none⟩ (.int .i64 k0)).setCell ⟨gr,vs.length*7+1,none⟩ (.int .i64 k1)).setCell ⟨gr,vs.length*7+2,none⟩ (.int .i64 k2)).setCell ⟨gr,vs.length*7+3,none⟩ (.string k3)).setCell ⟨gr,vs.length*7+4,none⟩ (.slice ja jl jc)).setCell ⟨gr,vs.length*7+5,none⟩ (.slice ka2 kl kc2)).setCell ⟨gr,vs.length*7+6,none⟩ (.slice fa2 fl fc2))=wA at *
     have HOA:=hide hoA
     have HRA:=hide hrA
     clear hoA hrA y0 y1 y2 y3 y4 y5 y6 g0 g1 g2 g3 g4 g5 g6
     refine hK.o _ _ ⟨fun h9=>(by cases h9),(HOA.o.1.block w5.heap.size (lt_of_block HXB.o) (Ne.symm hgx)).trans HXB.o⟩ (fun hD2 hS2=>?_)
     clear hD hS hK K'
     have hD:=hD2
     have hS:=hS2
     clear hD2 hS2
     (try simp only[putL])
     refine wATd (by kernel_rfl) ?_ _
     clear hD hS
     have hW6:∀ g,g≠bs→(Value.slice (some ⟨gr,0,none⟩) (vs.length+1) cr).ownBlock≠some g→wA.heap[g]?=w6.heap[g]?:=fun g h1 h2=>by
      rcases Nat.lt_or_ge g w6.heap.size with c | c
      ·exact(HOA.o.1.block g (by rw[HZB.o];exact c) (fun e=>h2 (by rw[e];rfl))).trans (HOB.o.block g c h1)
      ·rw[Array.getElem?_eq_none (by rw[HOA.o.2,HZB.o];exact c),Array.getElem?_eq_none c]
     have H13:Hid (Fi w0 B bs ao cap data wA q5 (.slice (some ⟨gr,0,none⟩) (vs.length+1) cr) pv x4 (vs++[.agg #[.int .i64 k0,.int .i64 k1,.int .i64 k2,.string k3,.slice ja jl jc,.slice ka2 kl kc2,.slice fa2 fl fc2]]) (Vs++[V]) ps Ps pl):=
      H11.o.obj (w6:=w6) HXV.o HG6.o HWH.o (fun g hg=>(OWN6.o.lt g hg).1) (HOA.o.1.os.trans HOB.o.os) (HOA.o.1.tape.trans HOB.o.tape) (HOA.o.1.output.trans HOB.o.output) (HOA.o.2.trans HZB.o) hW6 ((HOA.o.1.block bs (lt_of_block HBB.o) (Ne.symm hgb)).trans HBB.o) HRA.o
     have HPk:Hid (PackIn wA B [] (.slice none 0 0)):=HPa.o.keep (fun g hg=>(hW6 g (by omega) (fun e=>by have:=(OWN6.o.lt g e).1;omega)).trans ((HG6.o.block g (Nat.lt_of_lt_of_le (show g<w10.heap.size by omega) ((Below.refl w10.heap.size w10).drew.alloc (Nat.le_refl _) (.cells zero7 67)).size) (fun e=>by have:=(HFa.o.oo.lt g e.symm).1;omega)).trans (((Below.refl w10.heap.size w10).drew.alloc (Nat.le_refl _) (.cells zero7 67)).block g (by show g<w10.heap.size;omega))))
     obtain⟨w13,hw13⟩:∃ w13,wA=w13:=⟨_,rfl⟩
     subst hw13
     have w13:=wA
     clear w13
     clear hW6 HOA HRA HXV HB6 HX6 OWN6 HG6 HWH H11 HVa HPa HFa HBB HXB HOB HRB HZB
     have hB13:w0.heap.size≤wA.heap.size:=H13.o.only.size
     have c3:wA.cell? ⟨bs,3,none⟩=some pv:=H13.o.sc.c3
     obtain⟨qa,qc,hpv⟩:=ows H13.o.op
     subst hpv
     go_wp2_with (at_builtin;refine wpList_append_where rfl (.tmp 82) (.tmp 84) 42 rfl w0.heap.size 23 i2 (.slice none 0 0) 1 24 Tryz.underlying42 bi bz0 bz1 bz2 rfl (by decide) (.slice qa ps.length qc) ps.length ps rfl (H13.o.alloc _).op ⟨wA.heap.size,0,none⟩ 1 1 [.slice none 0 0] rfl rfl (fun j u hu=>by rw[aa,ceb (bln wA _)];simpa using hu) (by intro u hu;simp at hu;subst hu;rfl) (by unfold maxLen;omega) (by omega) (by simp;omega) ?_)
     intro v9 w14 own9 hg9 hw9
     have H14:=hide ((H13.o.alloc _).pack (HPk.o.keep (fun g hg=>((Below.refl wA.heap.size wA).alloc (Nat.le_refl _) _).block g (by omega))) own9 hg9 (fun g hg=>by have:=hw9 g hg;simpa using this))
     have hv9:=(hg9.block bs (lt_of_block (H13.o.alloc _).sc.blk) (fun e=>by have:=(H13.o.op.lt _ e.symm).1;omega)).trans (H13.o.alloc _).sc.blk
     have hc9:w14.cell? ⟨bs,3,none⟩=some (.slice qa ps.length qc):=ceb hv9
     have hf9:w14.frozen? ⟨bs,3,none⟩=false:=frb hv9
     obtain⟨a9,c9,hv9s⟩:=ows own9
     subst hv9s
     clear own9 hg9 hw9 hv9
     go_wp2
     go_end0
     exact .some_ HR.o.symm ⟨_,_,_,_,_,HPL.o▸H14.o⟩
end
end Go.Proofs.YtgkljcmjnphpeaaGreatDoor
