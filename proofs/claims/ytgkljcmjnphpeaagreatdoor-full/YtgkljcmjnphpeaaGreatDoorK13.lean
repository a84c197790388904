import Derived.Test.YtgkljcmjnphpeaaGreatDoorK12
set_option linter.unusedVariables false
set_option linter.unusedSimpArgs false
set_option maxHeartbeats 2000000
set_option maxRecDepth 100000
namespace Go.Proofs.YtgkljcmjnphpeaaGreatDoor
open Go.RowKit
section
variable{w w':World}
theorem iIW:(Tryz.prog.info? 3).map (fun i=>(i.zero,i.size,i.bytes))=some (some (.int .i64 0),1,8):=by kernel_rfl
def FsRes(o:Option (List Nat))(w:World)(e:Ending)(w':World):Prop:=
 Below w.heap.size w w'∧match o with
  |some l=>∃ v,e=.returned v∧w'.ownsRow w.heap.size 3 1 v l.length (l.map fun f:Nat=>.int .i64 (f:Int))
  |none=>e=gU 4
theorem FsRes.none_{o:Option (List Nat)}(b:Below w.heap.size w w')(h:o=none):FsRes o w (gU 4) w':=by subst h;exact⟨b,rfl⟩
theorem FsRes.some_{o:Option (List Nat)}{l:List Nat}{v:Value}(b:Below w.heap.size w w')(h:o=some l)(hx:w'.ownsRow w.heap.size 3 1 v l.length (l.map fun f:Nat=>.int .i64 (f:Int))):FsRes o w (.returned v) w':=by subst h;exact⟨b,v,rfl,hx⟩
theorem KtRow.keep{l:List (Nat × List Nat)}{v:Value}(h:KtRow l w v)(hb:Below w.heap.size w w'):KtRow l w' v:=by
 obtain⟨P,k,Ys,h1,h2⟩:=h
 exact⟨P,k,Ys,h1.keep hb,h2⟩
theorem KtRow.len{l:List (Nat × List Nat)}{v:Value}(h:KtRow l w v):∃ a c,v=.slice a l.length c:=by
 obtain⟨P,k,Ys,h1,h2⟩:=h
 obtain⟨a,c,e⟩:=h1.len
 exact⟨a,c,by rw[e,←h2,List.length_map]⟩
theorem KtRow.at{l:List (Nat × List Nat)}{v:Value}(h:KtRow l w v){i:Nat}{x:Nat × List Nat}(hx:l[i]?=some x) :
  ∃ g c,v=.slice (some ⟨g,0,none⟩) l.length c∧∃(n:Int) (pp:Nat) (ia:Option Addr) (il ic:Nat) (ka:Option Addr) (kl kc:Nat) (fa:Option Addr) (fl fc:Nat),∀ j u,([.int .i64 (x.1:Int),.int .i64 n,.int .i64 (pp:Int),.string (strN x.2),.slice ia il ic,.slice ka kl kc,.slice fa fl fc]:List Value)[j]?=some u→w.cell? ⟨g,i*7+j,none⟩=some u:=by
 obtain⟨P,k,Ys,h1,rfl⟩:=h
 rw[List.getElem?_map]at hx
 cases hy:Ys[i]? with
 |none=>rw[hy]at hx;cases hx
 |some y =>
  rw[hy]at hx
  cases hx
  obtain⟨g,c,z,e,_,_,hz,hc⟩:=h1.at hy
  obtain⟨pp,ia,il,ic,ka,kl,kc,fa,fl,fc,rfl⟩:=VIn.form2 hz
  exact⟨g,c,by rw[e,List.length_map],nOf y,pp,ia,il,ic,ka,kl,kc,fa,fl,fc,hc⟩
theorem fNl{k:Nat}{V:Node (VT k)}(h:Few (k:=k+1) V){l:List (Nat × List Nat)}(hl:Fo.filterNames V=some l):l.length≤200000:=by
 unfold Fo.filterNames at hl
 have h3:∀ y∈V.items,Few y:=h.2.2
 split at hl
 ·cases hl;simp
 ·next y he =>
  have hy:y∈V.items:=Fo.pick_mem (s:={ data:=#[70,105,108,116,101,114] }) (ks:=V.keys) (by rw[he];simp)
  split at hl
  ·cases hl;simp
  ·split at hl
   ·cases hl
    have:=h3 y hy
    cases k with
    |zero=>exact Nat.zero_le _
    |succ k=>unfold iK;rw[List.length_map];exact this.1
   ·cases hl
 ·cases hl
theorem fOo{P:Nat→Prop}{k:Nat}{v:Value}{V:Node (VT k)}(h:VIn P (k+1) w v V)(hl:V.keys.length=V.items.length)(hfew:Few (k:=k+1) V) :
  Calls Tryz.prog 310 #[v] w (FsRes (Fo.filtersOf V) w):=by
 obtain⟨i0,hi,hz0,hz1,hz2⟩:=info_parts iIW
 obtain⟨k0,k1,k2,k3,ja,jl,jc,ka2,kl,kc2,fa2,fl,fc2,hxf⟩:=VIn.form h
 have HC:Hid (∀ W:World,Below w.heap.size w W→Calls Tryz.prog 331 #[v] W (KtRes (Fo.filterNames V) W)):=
  fun W b=>fNo (VIn.keep (k+1) h (fun g _ hg=>b.block g hg)) hl hfew.1
 subst hxf
 clear h
 have B2:Hid (Below w.heap.size w (w.alloc (.cells #[.int .i64 k0,.int .i64 k1,.int .i64 k2,.string k3,.slice ja jl jc,.slice ka2 kl kc2,.slice fa2 fl fc2] 67))):=
  (Below.refl _ _).alloc (Nat.le_refl _) _
 have HC2:=hide (HC.o _ B2.o)
 obtain⟨R,hR⟩:∃ R,Fo.filtersOf V=R:=⟨_,rfl⟩
 have HR:=hide hR
 unfold Fo.filtersOf at HR
 rw[hR]
 clear hR HC
 cases e1:Fo.filterNames V with
 |none =>
  rw[e1]at HC2 HR
  go_enter Tryz.func310,Tryz.ntmps310
  go_wp2_with fail
  refine HC2.o.mono ?_
  rintro e w2 ⟨b2,h2⟩
  simp only[]at h2
  subst h2
  exact⟨rfl,.none_ (B2.o.trans (b2.mono (by simp))) HR.o.symm⟩
 |some l =>
  have hln:=fNl hfew e1
  rw[e1]at HC2 HR
  simp only[]at HR
  clear e1 hl hfew
  go_enter Tryz.func310,Tryz.ntmps310
  go_wp2_with fail
  refine HC2.o.mono ?_
  rintro e w2 ⟨b2,v2,rfl,hkt⟩
  have BB:=hide (B2.o.trans (b2.mono (by simp)))
  have HK:=hide hkt
  obtain⟨na,nc,rfl⟩:=hkt.len
  obtain⟨n,hn⟩:∃ n,l.length=n:=⟨_,rfl⟩
  rw[hn]at HK
  rw[hn]
  have HN:=hide hn
  clear hkt b2 HC2 B2
  have hn2:n≤200000:=by rw[←hn];exact hln
  clear hn hln
  go_wp2
  go_loopw [3,10] (fun lv i wr=>∃(m:Nat) (out:List Nat),m≤n∧out.length≤m∧i=.int .i64 m∧Hid (wr.ownsRow w2.heap.size 3 1 lv out.length (out.map fun f:Nat=>.int .i64 (f:Int)))∧Hid (Below w2.heap.size w2 wr)∧Hid ((Fo.filts (l.drop m)).map (fun r=>out++r)=R)) (fun _ i _=>n-(intOf i).toNat)
  case atStart=>exact⟨0,[],Nat.zero_le _,Nat.le_refl _,rfl,World.ownsRow_nil _ _ _ _,Below.refl _ _,by unfold Hid;rw[←HR.o];simp⟩
  clear HR
  case round =>
   obtain⟨m,out,hm,hom,rfl,HO,HB,HR⟩:=hrel
   rcases Nat.eq_or_lt_of_le hm with hm | hm
   ·subst hm
    rw[←HN.o,List.drop_length]at HR
    go_wp2
    go_ret
    exact .some_ (BB.o.trans (HB.o.mono BB.o.size)) (by rw[←HR.o];simp[Fo.filts]) (oRb HO.o BB.o.size)
   ·obtain⟨x,hx⟩:∃ x,l[m]?=some x:=⟨_,List.getElem?_eq_getElem (by rw[HN.o];exact hm)⟩
    have hdr:l.drop m=x::l.drop (m+1):=by rw[List.drop_eq_getElem_cons (by rw[HN.o];exact hm)];congr 1;rw[List.getElem?_eq_getElem (by rw[HN.o];exact hm)]at hx;simpa using hx
    rw[hdr]at HR
    obtain⟨g,c,hge,nn,pp,ia,il,ic,ka,kl,kc,fa,fl,fc,hcell⟩:=(HK.o.keep HB.o).at hx
    rw[HN.o]at hge
    cases hge
    have d0:wr.cell? ⟨g,m*7,none⟩=some (.int .i64 (x.1:Int)):=hcell 0 _ rfl
    have d1:wr.cell? ⟨g,m*7+1,none⟩=some (.int .i64 nn):=hcell 1 _ rfl
    have d2:wr.cell? ⟨g,m*7+2,none⟩=some (.int .i64 pp):=hcell 2 _ rfl
    have d3:wr.cell? ⟨g,m*7+3,none⟩=some (.string (strN x.2)):=hcell 3 _ rfl
    have d4:wr.cell? ⟨g,m*7+4,none⟩=some (.slice ia il ic):=hcell 4 _ rfl
    have d5:wr.cell? ⟨g,m*7+5,none⟩=some (.slice ka kl kc):=hcell 5 _ rfl
    have d6:wr.cell? ⟨g,m*7+6,none⟩=some (.slice fa fl fc):=hcell 6 _ rfl
    obtain⟨x1,xt⟩:=x
    simp only[]at d0 d3
    have hnl:=Fo.named_le (strN xt)
    have HR2:Hid ((if x1=4∧1≤Fo.named (strN xt)then(Fo.filts (l.drop (m+1))).map fun r=>Fo.named (strN xt)::r else none).map (fun r=>out++r)=R):=HR
    have HNM:=hide (nao (strN xt))
    generalize strN xt=S at *
    generalize Fo.named S=F at *
    clear hcell hx hdr HR
    have hBw:w2.heap.size≤wr.heap.size:=HB.o.size
    by_cases h4:x1=4
    ·subst h4
     by_cases hF:1≤F
     ·rw[if_pos ⟨rfl,hF⟩]at HR2
      have HR3:Hid ((Fo.filts (l.drop (m+1))).map (fun r=>(out++[F])++r)=R):=by
       unfold Hid
       rw[←HR2.o,Option.map_map]
       congr 1
       funext r
       simp
      clear HR2
      go_wp2_with fail
      refine(HNM.o _).mono ?_
      rintro e w3 ⟨rfl,hw⟩
      have hw:=hw.symm
      subst hw
      go_wp2_with fail
      refine(wiy _ 1 4 _ (by omega) (by omega)).mono ?_
      rintro e w3 ⟨rfl,hw⟩
      have hw:=hw.symm
      subst hw
      go_wp2_with fail
      refine(smy _).mono ?_
      rintro e w' ⟨rfl,hw⟩
      have hw:=hw.symm
      subst hw
      go_wp2_with (at_builtin;refine wpList_append_own _ rfl (.tmp 25) (.tmp 27) 52 rfl w2.heap.size 3 i0 (.int .i64 0) 1 8 Tryz.underlying52 hi hz0 hz1 hz2 rfl (by decide) _ out.length _ rfl ((HO.o.alloc _).alloc _) ⟨wr.heap.size+1,0,none⟩ 1 1 [.int .i64 (F:Int)] rfl rfl ?hnews ?hone ?h63 ?hby ?hbs ?_)
      case hnews =>
       intro j u hu
       have:=bln (wr.alloc (.cells #[.int .i64 4,.int .i64 nn,.int .i64 pp,.string S,.slice ia il ic,.slice ka kl kc,.slice fa fl fc] 67)) (.cells #[.int .i64 (F:Int)] 3)
       rw[World.size_alloc]at this
       rw[aa,ceb this]
       simpa using hu
      case hone=>intro u hu;simp at hu;subst hu;rfl
      case h63=>unfold maxLen;omega
      case hby=>omega
      case hbs=>simp;omega
      intro v6 w6 own6 hg6 _
      have HO6:Hid (w6.ownsRow w2.heap.size 3 1 v6 (out++[F]).length ((out++[F]).map fun f:Nat=>.int .i64 (f:Int))):=by
       unfold Hid
       rw[List.length_append,List.map_append];exact own6
      have HB6:Hid (Below w2.heap.size w2 w6):=((HB.o.alloc hBw _).alloc (by simp;omega) _).grown hg6 (by simp;omega) (fun k hk=>(HO.o.lt k hk).1)
      clear own6 hg6 d0 d1 d2 d3 d4 d5 d6
      go_wp2
      go_roundw
      case rel=>exact⟨m+1,out++[F],by omega,by simp;omega,by first | rfl | (congr 1),HO6,HB6,HR3⟩
      case measure=>simp[intOf];omega
     ·rw[if_neg (fun h=>hF h.2)]at HR2
      have hF0:F=0:=by omega
      subst hF0
      have HB3:Hid (∀ o:Obj,Below w.heap.size w (wr.alloc o)):=fun o=>(BB.o.trans (HB.o.mono BB.o.size)).alloc (Nat.le_trans BB.o.size hBw) o
      go_wp2_with fail
      refine(HNM.o _).mono ?_
      rintro e w3 ⟨rfl,hw⟩
      have hw:=hw.symm
      subst hw
      go_wp2_with fail
      refine(win _ 1 4 _ (by omega)).mono ?_
      rintro e w3 ⟨rfl,hw⟩
      have hw:=hw.symm
      subst hw
      go_wp2_with fail
      refine(sn _).mono ?_
      rintro e w' ⟨rfl,hw⟩
      have hw:=hw.symm
      subst hw
      exact⟨rfl,.none_ (HB3.o _) HR2.o.symm⟩
    ·rw[if_neg (fun h=>h4 h.1)]at HR2
     have t4:((x1:Int)==4)=false:=by simp;omega
     have HB3:Hid (∀ o:Obj,Below w.heap.size w (wr.alloc o)):=fun o=>(BB.o.trans (HB.o.mono BB.o.size)).alloc (Nat.le_trans BB.o.size hBw) o
     generalize (x1:Int)=z1 at *
     clear h4
     go_wp2_with fail
     refine(HNM.o _).mono ?_
     rintro e w3 ⟨rfl,hw⟩
     have hw:=hw.symm
     subst hw
     go_wp2_with fail
     refine(sn _).mono ?_
     rintro e w' ⟨rfl,hw⟩
     have hw:=hw.symm
     subst hw
     exact⟨rfl,.none_ (HB3.o _) HR2.o.symm⟩
namespace Fo
def nameOk(s:ByteArray):Bool:=decide (s.size≤60) && !(s.data.toList.contains 0)
def dictOk(ks:List (List Nat))(n:Nat):Bool:=decide (ks.length=n)&&(ks.all fun s=>nameOk (strN s))&&decide ((ks.map strN).Nodup)
def realOk(n:Int)(places:Nat):Bool:=(decide (places=0)||decide (n.tmod 10≠0))&&decide (places≤5)&&decide (-999999999≤n∧n≤999999999)
def barred(s:ByteArray):Bool:=decide (s={ data:=#[76,101,110,103,116,104] })||decide (s={ data:=#[70,105,108,116,101,114] })||decide (s={ data:=#[68,101,99,111,100,101,80,97,114,109,115] })
def streamOk{α:Type}(V:Node α):Bool:=dictOk V.keys V.items.length&&decide ((strN V.text).size≤20000)&&decide (V.filters.length≤4)&&(V.keys.all fun s => !barred (strN s))&&(V.filters.all fun f=>decide (1≤f∧f≤4))
def rightV{α:Type}(V:Node α):Bool:=match V.kind with
 |0=>true
 |6=>true
 |9=>true
 |1=>decide (0≤V.n∧V.n≤1)
 |2=>decide (-2147483648≤V.n∧V.n≤2147483647)
 |3=>realOk V.n V.places
 |4=>nameOk (strN V.text)
 |5=>decide ((strN V.text).size≤4000)
 |7=>dictOk V.keys V.items.length
 |8=>streamOk V
 |_=>false
def bareV{α:Type}(V:Node α):Bool:=
 (decide (V.kind=1∨V.kind=2∨V.kind=9∨V.kind=3)||decide (V.n=0))&&(decide (V.kind=3)||decide (V.places=0))&&(decide (V.kind=4∨V.kind=5∨V.kind=8)||decide (V.text=[])) &&
 (decide (V.kind=6∨V.kind=7∨V.kind=8)||decide (V.items=[]))&&(decide (V.kind=7∨V.kind=8)||decide (V.keys=[]))&&(decide (V.kind=8)||decide (V.filters=[]))
def oneOk{α:Type}(objs deep nodes:Nat)(V:Node α):Bool:=decide (nodes+V.items.length≤2000) && !(decide (V.kind=8∧1<deep)) && !(decide (V.kind=9∧¬ (1≤V.n∧V.n≤(objs:Int))))&&bareV V&&rightV V
def walk(objs:Nat):(k:Nat)→Nat→List (VT k)→Option Nat
 |0,nodes,_=>some nodes
 |k+1,nodes,l=>l.foldlM (fun(nodes:Nat) (V:Node (VT k))=>if oneOk objs (12-k) nodes V=true then walk objs k (nodes+V.items.length) V.items else none) nodes
def isDoc(Vs:List (VT 12))(root:Int):Bool:=decide (1≤Vs.length∧Vs.length≤100)&&decide (1≤root∧root≤(Vs.length:Int))&&decide ((Vs[(root-1).toNat]?).map (fun V:VT 12=>Node.kind (α:=VT 11) V)=some 7)&&(walk Vs.length 12 Vs.length Vs).isSome
end Fo
theorem inn:∀ l:List UInt8,(Lib.indexByte l 0<0)↔l.contains 0=false
 | []=>by simp[Lib.indexByte]
 |b::l=>by
  have ih:=inn l
  have hr:∀ l:List UInt8,-1≤Lib.indexByte l 0:=by
   intro l
   induction l with
   |nil=>simp[Lib.indexByte]
   |cons b l ih2 =>
    unfold Lib.indexByte
    split
    ·omega
    ·split
     ·omega
     ·omega
  have h1:=hr l
  unfold Lib.indexByte
  by_cases hb:b=0
  ·subst hb;simp
  ·have hb':(b==0)=false:=by simpa using hb
   have hb2:¬ (0=b):=fun h=>hb h.symm
   rw[hb',List.contains_cons]
   have hb3:((0:UInt8)==b)=false:=by simpa using hb2
   rw[hb3,Bool.false_or,←ih]
   by_cases hi:Lib.indexByte l 0 = -1
   ·simp[hi]
   ·have:(Lib.indexByte l 0 == -1)=false:=by simpa using hi
    rw[this]
    simp only[Bool.false_eq_true,if_false]
    omega
theorem iBo(s:ByteArray)(w:World) :
  Calls Tryz.prog 286 #[.string s,.int .u8 0] w fun e w'=>e=.returned (.int .i64 (Lib.indexByte s.data.toList 0))∧w'=w:=by
 have h1:Calls Tryz.prog 318 #[.string s,.int .u8 0] w fun e w'=>e=.returned (.int .i64 (Lib.indexByte s.data.toList 0))∧w'=w:=by
  go_enter Tryz.func318,Tryz.ntmps318
  go_wp2
  rw[run_callFunc_extern Tryz.func333 (by kernel_rfl) (by kernel_rfl) (by kernel_rfl) (e:=Extern.BytealgIndexByte.indexByte) (by kernel_rfl),Lib.run_indexByteString]
  simp only[Result.andThen]
  rw[Oper.upon_value]
  go_wp2
  go_ret
  exact⟨rfl,rfl⟩
 have H1:=hide h1
 clear h1
 go_enter Tryz.func286,Tryz.ntmps286
 go_wp2_with fail
 refine H1.o.mono ?_
 rintro e w' ⟨rfl,hw⟩
 have hw:=hw.symm
 subst hw
 go_wp2
 go_ret
 exact⟨rfl,rfl⟩
theorem isNo(s:ByteArray)(w:World) :
  Calls Tryz.prog 231 #[.string s] w fun e w'=>e=.returned (.bool (Fo.nameOk s))∧w'=w:=by
 by_cases h:s.size≤60
 ·have hi:=inn s.data.toList
  have H1:=hide (iBo s w)
  generalize Lib.indexByte s.data.toList 0=x at *
  have h2:Fo.nameOk s=decide (x<0):=by
   unfold Fo.nameOk
   rw[decide_eq_true h,Bool.true_and]
   by_cases hx:x<0
   ·rw[hi.1 hx];simp[hx]
   ·have hc:s.data.toList.contains 0=true:=by
     cases hc:s.data.toList.contains 0 with
     |true=>rfl
     |false=>exact absurd (hi.2 hc) hx
    rw[hc];simp;omega
  rw[h2]
  clear hi h2
  go_enter Tryz.func231,Tryz.ntmps231
  go_wp2_with fail
  refine H1.o.mono ?_
  rintro e w' ⟨rfl,hw⟩
  have hw:=hw.symm
  subst hw
  go_wp2
  go_ret
  exact⟨rfl,rfl⟩
 ·have h2:Fo.nameOk s=false:=by
   unfold Fo.nameOk
   rw[decide_eq_false h];rfl
  rw[h2]
  go_enter Tryz.func231,Tryz.ntmps231
  go_wp2
  go_ret
  exact⟨rfl,rfl⟩
theorem wid(n a b:Int)(w:World):Calls Tryz.prog 63 #[.int .i64 n,.int .i64 a,.int .i64 b] w fun e w'=>e=.returned (.bool (decide (a≤n∧n≤b)))∧w'=w:=by
 by_cases h:a≤n∧n≤b
 ·rw[decide_eq_true h];exact wiy n a b w h.1 h.2
 ·rw[decide_eq_false h];exact win n a b w (by omega)
theorem isRo(n:Int)(p:Nat)(w:World) :
  Calls Tryz.prog 230 #[.int .i64 n,.int .i64 (p:Int)] w fun e w'=>e=.returned (.bool (Fo.realOk n p))∧w'=w:=by
 have W2:=hide (wid n (-999999999) 999999999 w)
 by_cases h5:p≤5
 ·have W1:=hide (wiy (p:Int) 0 5 w (by omega) (by omega))
  by_cases hp:p=0
  ·have h2:Fo.realOk n p=decide (-999999999≤n∧n≤999999999):=by
    unfold Fo.realOk
    rw[decide_eq_true h5,decide_eq_true hp];rfl
   rw[h2]
   generalize decide (-999999999≤n∧n≤999999999)=D at *
   subst hp
   clear h2
   go_enter Tryz.func230,Tryz.ntmps230
   go_wp2_with fail
   refine W1.o.mono ?_
   rintro e w' ⟨rfl,hw⟩
   have hw:=hw.symm
   subst hw
   go_wp2_with fail
   refine W2.o.mono ?_
   rintro e w' ⟨rfl,hw⟩
   have hw:=hw.symm
   subst hw
   go_wp2
   go_ret
   exact⟨rfl,rfl⟩
  ·have t1:((p:Int)==0)=false:=by simp;omega
   by_cases hm:n.tmod 10=0
   ·have h2:Fo.realOk n p=false:=by
     unfold Fo.realOk
     rw[decide_eq_false hp,decide_eq_false (by simpa using hm)];rfl
    rw[h2]
    have t2:(n.tmod 10==0)=true:=by simp[hm]
    have t3:(n.tmod 10 != 0)=false:=by simp[hm]
    clear h2 hp
    go_enter Tryz.func230,Tryz.ntmps230
    go_wp2
    go_ret
    exact⟨rfl,rfl⟩
   ·have h2:Fo.realOk n p=decide (-999999999≤n∧n≤999999999):=by
     unfold Fo.realOk
     rw[decide_eq_true h5,decide_eq_true hm,Bool.or_true];rfl
    rw[h2]
    generalize decide (-999999999≤n∧n≤999999999)=D at *
    have t2:(n.tmod 10==0)=false:=by simp[hm]
    have t3:(n.tmod 10 != 0)=true:=by simp[hm]
    clear h2 hp
    go_enter Tryz.func230,Tryz.ntmps230
    go_wp2_with fail
    refine W1.o.mono ?_
    rintro e w' ⟨rfl,hw⟩
    have hw:=hw.symm
    subst hw
    go_wp2_with fail
    refine W2.o.mono ?_
    rintro e w' ⟨rfl,hw⟩
    have hw:=hw.symm
    subst hw
    go_wp2
    go_ret
    exact⟨rfl,rfl⟩
 ·have W1:=hide (win (p:Int) 0 5 w (by omega))
  have h2:Fo.realOk n p=false:=by
   unfold Fo.realOk
   rw[decide_eq_false h5,Bool.and_false];rfl
  rw[h2]
  have t1:((p:Int)==0)=false:=by simp;omega
  by_cases hm:n.tmod 10=0
  ·have t2:(n.tmod 10==0)=true:=by simp[hm]
   have t3:(n.tmod 10 != 0)=false:=by simp[hm]
   clear h2 h5
   go_enter Tryz.func230,Tryz.ntmps230
   go_wp2
   go_ret
   exact⟨rfl,rfl⟩
  ·have t2:(n.tmod 10==0)=false:=by simp[hm]
   have t3:(n.tmod 10 != 0)=true:=by simp[hm]
   clear h2 h5
   go_enter Tryz.func230,Tryz.ntmps230
   go_wp2_with fail
   refine W1.o.mono ?_
   rintro e w' ⟨rfl,hw⟩
   have hw:=hw.symm
   subst hw
   go_wp2
   go_ret
   exact⟨rfl,rfl⟩
end
section
open Go.RowKit Go.Maps Go.WideMaps
variable{w w':World}
def klit(s:List Nat):Lit:=.string (strN s).data.toList
theorem sk(a b:List Nat):(klit a).sameKey (klit b)=decide (strN a=strN b):=by
 unfold klit
 simp only[Lit.sameKey]
 rw[Bool.eq_iff_iff,beq_iff_eq,decide_eq_true_iff]
 exact⟨fun h=>ByteArray.ext (Array.toList_inj.1 h),fun h=>by rw[h]⟩
theorem adl:∀(xs:List Lit) (acc:List Lit),(xs.foldl addKey acc).length≤acc.length+xs.length
 | [],acc=>by simp
 |x::r,acc=>by
  rw[List.foldl_cons]
  have:=adl r (addKey acc x)
  have h2:(addKey acc x).length≤acc.length+1:=by
   unfold addKey
   split<;>simp
  simp only[List.length_cons];omega
theorem aa_:∀(xs acc:List (List Nat)),((xs.map klit).foldl addKey (acc.map klit)).length=acc.length+xs.length↔(xs.map strN).Nodup∧∀ x∈xs,strN x∉acc.map strN
 | [],acc=>by simp
 |x::r,acc=>by
  rw[List.map_cons,List.foldl_cons]
  have hany:(acc.map klit).any (fun y=>y.sameKey (klit x))=true↔strN x∈acc.map strN:=by
   rw[List.any_map,List.any_eq_true,List.mem_map]
   constructor
   ·rintro⟨y,hy,h⟩
    simp only[Function.comp_apply,sk,decide_eq_true_iff]at h
    exact⟨y,hy,h⟩
   ·rintro⟨y,hy,h⟩
    refine⟨y,hy,?_⟩
    simp only[Function.comp_apply,sk,decide_eq_true_iff]
    exact h
  by_cases hx:strN x∈acc.map strN
  ·have e1:addKey (acc.map klit) (klit x)=acc.map klit:=by unfold addKey;rw[if_pos (hany.2 hx)]
   rw[e1]
   have:=adl (r.map klit) (acc.map klit)
   simp only[List.length_map,List.length_cons]at *
   constructor
   ·intro h;omega
   ·rintro⟨_,h⟩;exact absurd hx (h x (by simp))
  ·have e1:addKey (acc.map klit) (klit x)=(acc++[x]).map klit:=by
    unfold addKey;rw[if_neg (fun h=>hx (hany.1 h))];simp
   rw[e1]
   have ih:=aa_ r (acc++[x])
   rw[List.length_append]at ih
   simp only[List.length_cons,List.length_nil,List.map_cons,List.nodup_cons]
   rw[show acc.length+(r.length+1)=acc.length+(0+1)+r.length by omega]
   rw[List.length_cons,List.length_nil]at ih
   rw[ih]
   constructor
   ·rintro⟨h1,h2⟩
    refine⟨⟨fun hm=>?_,h1⟩,fun y hy=>?_⟩
    ·obtain⟨y,hy,hyx⟩:=List.mem_map.1 hm
     exact h2 y hy (by simp[hyx])
    ·rcases List.mem_cons.1 hy with rfl | hy
     ·exact hx
     ·intro hm
      exact h2 y hy (by rw[List.map_append];exact List.mem_append_left _ hm)
   ·rintro⟨⟨h1,h2⟩,h3⟩
    refine⟨h2,fun y hy hm=>?_⟩
    rw[List.map_append,List.mem_append]at hm
    rcases hm with hm | hm
    ·exact h3 y (by simp[hy]) hm
    ·simp at hm
     exact h1 (List.mem_map.2 ⟨y,hy,hm⟩)
theorem ses(ks:List (List Nat)):(Maps.size (setOf (H:=Unit) (.agg []) (ks.map klit))=ks.length)↔(ks.map strN).Nodup:=by
 rw[size_setOf _ _ (fun x hx=>by obtain⟨s,_,rfl⟩:=List.mem_map.1 hx;trivial)]
 have:=aa_ ks []
 simp only[List.map_nil,List.length_nil,Nat.zero_add,List.not_mem_nil,not_false_eq_true,implies_true,and_true]at this
 exact this
theorem kS:Keyed Tryz.prog 9:=string_keyed Tryz.underlying9
theorem iDo{P:Nat→Prop}{k:Nat}{v:Value}{V:Node (VT k)}(h:VIn P (k+1) w v V)(hfew:V.keys.length≤200000) :
  Calls Tryz.prog 232 #[v] w fun e w'=>e=.returned (.bool (Fo.dictOk V.keys V.items.length))∧Below w.heap.size w w':=by
 obtain⟨iv,kv,fv,vs,hv,hvl,hiv,hvs,hkv,hfv⟩:=h.parts
 obtain⟨ia,ic,rfl⟩:=ows hiv.1
 obtain⟨ka,kc,rfl⟩:=ows hkv.1
 obtain⟨fa,fc,rfl⟩:=ows hfv.1
 have HK:=hide hkv
 clear h hfv hiv hkv hvs
 rw[hvl]at hv
 obtain⟨n,hn⟩:∃ n,V.keys.length=n:=⟨_,rfl⟩
 obtain⟨il,hil⟩:∃ il,V.items.length=il:=⟨_,rfl⟩
 have hn2:n≤200000:=by omega
 rw[hn,hil]at hv
 rw[hil]
 unfold nV at hv
 generalize (V.kind:Int)=kd at hv
 generalize V.n=nn at hv
 generalize (V.places:Int)=pp at hv
 generalize strN V.text=tt at hv
 generalize V.filters.length=fl at hv
 subst hv
 obtain⟨R,hR⟩:∃ R,Fo.dictOk V.keys il=R:=⟨_,rfl⟩
 rw[hR]
 have HR:=hide hR
 have HN:=hide hn
 clear hR hn hfew hvl hil
 unfold Fo.dictOk at HR
 rw[HN.o]at HR
 by_cases hni:n=il
 ·subst hni
  rw[decide_eq_true (rfl:n=n),Bool.true_and]at HR
  have B1:Hid (Below w.heap.size w (w.alloc (.cells #[.int .i64 kd,.int .i64 nn,.int .i64 pp,.string tt,.slice ia n ic,.slice ka n kc,.slice fa fl fc] 67))):=(Below.refl _ _).alloc (Nat.le_refl _) _
  have HBX:Hid ((w.alloc (.cells #[.int .i64 kd,.int .i64 nn,.int .i64 pp,.string tt,.slice ia n ic,.slice ka n kc,.slice fa fl fc] 67)).heap[w.heap.size]?=some (.cells #[.int .i64 kd,.int .i64 nn,.int .i64 pp,.string tt,.slice ia n ic,.slice ka n kc,.slice fa fl fc] 67 (0,0))):=bln _ _
  have hmm:=@run_makeMap Tryz.prog
  have HM0:Hid (((w.alloc (.cells #[.int .i64 kd,.int .i64 nn,.int .i64 pp,.string tt,.slice ia n ic,.slice ka n kc,.slice fa fl fc] 67)).alloc (.map #[] 0)).ownsMap Tryz.prog 9 (unitElem (H:=Unit)) (w.heap.size+1) 0 (.map [])):=by
   have:=World.ownsMap_made (H:=Unit) (w.alloc (.cells #[.int .i64 kd,.int .i64 nn,.int .i64 pp,.string tt,.slice ia n ic,.slice ka n kc,.slice fa fl fc] 67)) Tryz.prog 9 unitElem
   rw[World.size_alloc]at this
   exact this
  go_enter Tryz.func232,Tryz.ntmps232
  go_wp2
  go_loopw [17] (fun i wr=>∃(m:Nat),m≤n∧i=.int .i64 m∧Hid (wr.ownsMap Tryz.prog 9 (unitElem (H:=Unit)) (w.heap.size+1) m (setOf (.agg []) ((V.keys.take m).map klit)))∧Hid (Below w.heap.size w wr)∧Hid (wr.heap[w.heap.size]?=some (.cells #[.int .i64 kd,.int .i64 nn,.int .i64 pp,.string tt,.slice ia n ic,.slice ka n kc,.slice fa fl fc] 67 (0,0)))∧Hid ((((V.keys.drop m).all fun s=>Fo.nameOk (strN s))&&decide ((V.keys.map strN).Nodup))=R)) (fun i _=>n-(intOf i).toNat)
  case atStart=>exact⟨0,Nat.zero_le _,rfl,by simpa[setOf]using HM0,B1.o.alloc (by simp) _,bla _ HBX.o,HR⟩
  case round =>
   obtain⟨m,hm,rfl,HO,HB,HX,HR2⟩:=hrel
   rcases Nat.eq_or_lt_of_le hm with hm | hm
   ·subst hm
    have e1:V.keys.take m=V.keys:=List.take_of_length_le (by rw[HN.o];exact Nat.le_refl _)
    have e2:V.keys.drop m=[]:=List.drop_of_length_le (by rw[HN.o];exact Nat.le_refl _)
    rw[e1]at HO
    rw[e2]at HR2
    have hsz:=ses V.keys
    rw[HN.o]at hsz
    obtain⟨z,hz⟩:∃ z,Maps.size (setOf (H:=Unit) (.agg []) (V.keys.map klit))=z:=⟨_,rfl⟩
    rw[hz]at hsz
    have hR3:R=((z:Int)==(m:Int)):=by
     rw[←HR2.o]
     by_cases hnd:(V.keys.map strN).Nodup
     ·rw[decide_eq_true hnd,hsz.2 hnd];simp
     ·rw[decide_eq_false hnd]
      have:z≠m:=fun e=>hnd (hsz.1 e)
      simp;omega
    have HR3:=hide hR3
    have HZ:=hide hz
    have d5:wr.cell? ⟨w.heap.size,5,none⟩=some (.slice ka m kc):=ceb HX.o
    clear hsz hR3 hz HR2
    go_wp2_with (first
     | (at_len;refine wpList_len_own _ rfl _ 265 rfl 9 266 Tryz.underlying265 (unitElem (H:=Unit)) (w.heap.size+1) m _ rfl HO.o ?_;rw[HZ.o])
     |go_in)
    go_ret
    exact⟨by rw[HR3.o];rfl,HB.o⟩
   ·obtain⟨s,hs⟩:∃ s,V.keys[m]?=some s:=⟨_,List.getElem?_eq_getElem (by rw[HN.o];exact hm)⟩
    have hdr:V.keys.drop m=s::V.keys.drop (m+1):=by
     rw[List.drop_eq_getElem_cons (by rw[HN.o];exact hm)];congr 1
     rw[List.getElem?_eq_getElem (by rw[HN.o];exact hm)]at hs;simpa using hs
    have htk:V.keys.take (m+1)=V.keys.take m++[s]:=by rw[List.take_add_one,hs];rfl
    rw[hdr,List.all_cons]at HR2
    obtain⟨g,c,hge,hgc⟩:=ro HK.o.1 (show(V.keys.map fun s=>Value.string (strN s))[m]?=some (.string (strN s))by rw[List.getElem?_map,hs];rfl)
    rw[HN.o]at hge
    cases hge
    have dk:wr.cell? ⟨g,m,none⟩=some (.string (strN s)):=by
     rw[HB.o.cell (World.block_lt_of_cell? w _ hgc)];exact hgc
    have HNM:=hide (isNo (strN s))
    have HSO:Hid (setOf (H:=Unit) (.agg []) ((V.keys.take (m+1)).map klit)=(setOf (.agg []) ((V.keys.take m).map klit)).put (klit s) (.agg [])):=by
     unfold Hid
     rw[htk,List.map_append];exact setOf_snoc _ _ _
    have HKY:Hid ((strN s).size≤60→keyOf Tryz.prog 9 (.string (strN s))=some (klit s)):=fun h=>keyOf_string_mk Tryz.underlying9 (by unfold maxLen;omega)
    have hns:Fo.nameOk (strN s)=true→(strN s).size≤60:=fun h=>by
     unfold Fo.nameOk at h
     simp at h
     exact h.1
    have HNS:=hide hns
    clear hs hdr htk hgc hns
    generalize klit s=L at *
    generalize strN s=S at *
    by_cases hok:Fo.nameOk S=true
    ·rw[hok]at HNM HR2
     have HKEY:=hide (HKY.o (HNS.o hok))
     clear hok HKY HNS
     go_wp2_with fail
     refine(HNM.o _).mono ?_
     rintro e w2 ⟨rfl,hw⟩
     have hw:=hw.symm
     subst hw
     go_wp2_with (first
      | (at_mapUpdate;refine wpList_mapUpdate_own _ rfl _ _ _ 265 rfl 9 266 kS Tryz.underlying265 (unitElem (H:=Unit)) (w.heap.size+1) m _ rfl HO.o (by unfold maxLen;omega) _ _ _ rfl rfl HKEY.o _ [] unitElem_mk ?_;intro w1 hown1 hgrow1)
      |go_in)
     have HO1:Hid (w1.ownsMap Tryz.prog 9 (unitElem (H:=Unit)) (w.heap.size+1) (m+1) (setOf (.agg []) ((V.keys.take (m+1)).map klit))):=by unfold Hid;rw[HSO.o];exact hown1
     have HB1:Hid (Below w.heap.size w w1):=HB.o.grown hgrow1 HB.o.size (fun j hj=>by cases hj;omega)
     have HX1:Hid (w1.heap[w.heap.size]?=some (.cells #[.int .i64 kd,.int .i64 nn,.int .i64 pp,.string tt,.slice ia n ic,.slice (some ⟨g,0,none⟩) n kc,.slice fa fl fc] 67 (0,0))):=by
      unfold Hid
      rw[hgrow1.block _ (lt_of_block HX.o) (fun e=>by have:=Option.some.inj e;omega)];exact HX.o
     clear hown1 hgrow1 HO HB HX
     go_wp2
     go_roundw
     case rel=>exact⟨m+1,by omega,by first | rfl | (congr 1),HO1,HB1,HX1,HR2⟩
     case measure=>simp[intOf];omega
    ·have hok2:Fo.nameOk S=false:=by simpa using hok
     rw[hok2]at HNM HR2
     have hRf:R=false:=HR2.o.symm
     have HRF:=hide hRf
     clear hRf hok hok2 HKY HNS
     go_wp2_with fail
     refine(HNM.o _).mono ?_
     rintro e w2 ⟨rfl,hw⟩
     have hw:=hw.symm
     subst hw
     go_wp2
     go_ret
     exact⟨by rw[HRF.o];rfl,HB.o⟩
 ·have hRf:R=false:=by
   rw[←HR.o,decide_eq_false hni];rfl
  rw[hRf]
  have t1:(((n:Int) != (il:Int)))=true:=by simp;omega
  have t2:(((n:Int)==(il:Int)))=false:=by simp;omega
  have hb:=(Below.refl w.heap.size w).alloc (Nat.le_refl _) (.cells #[.int .i64 kd,.int .i64 nn,.int .i64 pp,.string tt,.slice ia il ic,.slice ka n kc,.slice fa fl fc] 67)
  have HB:=hide hb
  clear hb hni hRf
  go_enter Tryz.func232,Tryz.ntmps232
  go_wp2
  go_ret
  exact⟨rfl,HB.o⟩
end
end Go.Proofs.YtgkljcmjnphpeaaGreatDoor
