import Derived.Test.YtgkljcmjnphpeaaGreatDoorK39
set_option linter.unusedVariables false
set_option linter.unusedSimpArgs false
set_option maxHeartbeats 4000000
set_option maxRecDepth 100000
namespace Go.Proofs.YtgkljcmjnphpeaaGreatDoor
open Go.RowKit
section
open Go.RowKit Go.Shelf
attribute [local go_sem] Oper.semAt_some
variable{w w':World}
structure Byts(w:World)(v:Value)(l:List Nat):Prop where
 sl:∃ ao cap,v=.slice ao l.length cap∧Dat w w.heap.size ao l∧l.length≤cap∧cap≤9223372036854775807∧(ao=none→cap=0)
 byt:∀ x∈l,x<256
structure EncBy(E:Nat→List Nat→List Nat→Prop)(M:Nat):Prop where
 call:∀(w:World) (v:Value) (f:Nat) (d:List Nat),FilOk f→Byts w v d→d.length≤M→Calls Tryz.prog 70 #[.int .i64 f,v] w fun e w'=>∃ u enc,e=.returned u∧w'.ownsRow w.heap.size 5 1 u enc.length (byv enc)∧Below w.heap.size w w'∧E f d enc
 byt:∀(f:Nat) (d enc:List Nat),E f d enc→∀ x∈enc,x<256
 len:∀(f:Nat) (d enc:List Nat),E f d enc→enc.length≤2*d.length+36
def PT(E:Nat→List Nat→List Nat→Prop):List Nat→List Nat→List Nat→Prop
 | [],d,out=>out=d
 |f::fs,d,out=>∃ m,PT E fs d m∧E f m out
theorem nc_{l:List Nat}{cur:Array Value}{g:Nat}{e:TypeId}{f:Nat × Nat}(hg:w.heap[g]?=some (.cells cur e f))(hc:cur.toList.take l.length=byv l)(i:Nat)(hi:i<l.length):w.cell? ⟨g,0+i,none⟩=some (.int .u8 (nth l i:Nat)):=by
 rw[Nat.zero_add,ceb hg,←Array.getElem?_toList,←List.getElem?_take_of_lt hi,hc]
 simp[byv,nth,List.getElem?_eq_getElem hi]
theorem Byts.own{B:Nat}{v:Value}{l:List Nat}(h:w.ownsRow B 5 1 v l.length (byv l))(hb:∀ x∈l,x<256):Byts w v l:=by
 refine⟨?_,hb⟩
 rcases h.2 with⟨h1,h2⟩ | ⟨g,c,cur,e1,e2,hg,hn,hm,hs,hc⟩
 ·have:l=[]:=List.length_eq_zero_iff.1 h2
  subst this
  exact⟨none,0,h1,fun i hi=>absurd hi (by simp),Nat.le_refl _,by omega,fun _=>rfl⟩
 ·refine⟨_,c,e1,fun i hi=>⟨g,0,rfl,lt_of_block hg,nc_ hg (by simpa using hc) i hi⟩,hn,hm,fun h=>by cases h⟩
theorem Byts.below{v:Value}{l:List Nat}(h:Byts w v l)(b:Below w.heap.size w w'):Byts w' v l:=by
 obtain⟨⟨ao,cap,e,hd,h1⟩,hb⟩:=h
 refine⟨⟨ao,cap,e,fun i hi=>?_,h1⟩,hb⟩
 obtain⟨b',o,e2,h2,h3⟩:=hd i hi
 exact⟨b',o,e2,Nat.lt_of_lt_of_le h2 b.size,(b.cell (p:=⟨b',o+i,none⟩) h2).trans h3⟩
def PkI(E:Nat→List Nat→List Nat→Prop)(D:Nat)(text:List Nat)(w:World)(pre:List (Nat × Fil))(W:World):Prop:=
 (∃ v d,(W.cell? ⟨D,0,none⟩=some v∧W.frozen? ⟨D,0,none⟩=false)∧Byts W v d∧PT E (pre.map fun x=>x.2.1).reverse text d∧d.length+36≤2^pre.length*(text.length+36)∧D+1<W.heap.size∧(∀ g,v.ownBlock=some g→w.heap.size≤g))∧Below w.heap.size w W
theorem Byts.grown{v:Value}{l:List Nat}{row:Option Nat}(h:Byts w v l)(hg:w.grownBy w' row)(hr:∀ r,row=some r→∃ o:Obj,w.heap[r]?=some o∧o.isCells=false):Byts w' v l:=by
 obtain⟨⟨ao,cap,e,hd,h1⟩,hb⟩:=h
 refine⟨⟨ao,cap,e,fun i hi=>?_,h1⟩,hb⟩
 obtain⟨b',o,e2,h2,h3⟩:=hd i hi
 exact⟨b',o,e2,Nat.lt_of_lt_of_le h2 hg.size,cell_kept h3 hg hr⟩
theorem PkI.own(E:Nat→List Nat→List Nat→Prop)(D:Nat)(text:List Nat)(w:World)(B:Nat)(hB:w.heap.size≤B):OwnFrom B (PkI E D text w):=
 OwnFrom.and (Own.from (fun s A B row hs hg hr=>by
  obtain⟨v,d,⟨h1,h2⟩,h3,h4,h5,h6,h7⟩:=hs
  exact⟨v,d,⟨cell_kept h1 hg hr,(frozen_kept h1 hg hr).trans h2⟩,h3.grown hg hr,h4,h5,Nat.lt_of_lt_of_le h6 hg.size,h7⟩) _) (ownFrom_below (Nat.le_refl _) hB)
theorem po_0{E:Nat→List Nat→List Nat→Prop}{M:Nat}(hE:EncBy E M){text:List Nat}{fa:Option Addr}{nf fc:Nat}{fs:List Fil}(hb:∀ x∈text,x<256)(hl:text.length≤1000000)(hfs:FilsAt w.heap.size w (.slice fa nf fc) fs)(hfl:fs.length≤20)(hM:2^fs.length*(text.length+36)≤2*M)(hM1:text.length≤M)
  {kd nn pp:Int} {ia ka:Option Addr} {ni ic nk kc:Nat} :
  Calls Tryz.prog 178 #[.agg #[.int .i64 kd,.int .i64 nn,.int .i64 pp,.string (strN text),.slice ia ni ic,.slice ka nk kc,.slice fa nf fc]] w fun e w'=>∃ v d,e=.returned v∧Byts w' v d∧(∀ g,v.ownBlock=some g→w.heap.size≤g)∧Below w.heap.size w w'∧PT E (fs.map fun x=>x.1) text d∧d.length+36≤2^fs.length*(text.length+36):=by
 have HE:=hide hE
 have HM:=hide hM
 clear hM hE
 have HB:=hide hb
 have HFS:=hide hfs
 clear hfs hb
 refine(callsIn_wide (n:=3)).1 ?_
 refine callsIn_of_wp_marks Tryz.func178 rfl trivial ?_ rfl
 simp only[Tryz.ntmps178,List.size_toArray,List.length_cons,List.length_nil,Nat.reduceAdd,Nat.reduceSub,Array.replicate_succ,Array.replicate_zero,List.push_toArray,List.append_toArray,List.nil_append,List.cons_append]
 obtain⟨cap,W1,hc1,hc2,hcv,hcb,hcd,hcs⟩:=cob text HB.o hl (w.alloc (.cells #[.int .i64 kd,.int .i64 nn,.int .i64 pp,.string (strN text),.slice ia ni ic,.slice ka nk kc,.slice fa nf fc] 67))
 have b1:Below w.heap.size w W1:=((Below.refl _ _).alloc (Nat.le_refl _) _).trans (hcb.mono (by simp))
 have hx:W1.heap[w.heap.size]?=some (.cells #[.int .i64 kd,.int .i64 nn,.int .i64 pp,.string (strN text),.slice ia ni ic,.slice ka nk kc,.slice fa nf fc] 67 (0,0)):=(hcb.block _ (by simp)).trans (bln _ _)
 have hx6:(W1.alloc (.cells #[.slice (some ⟨w.heap.size+1,0,none⟩) text.length cap] 23)).cell? ⟨w.heap.size,6,none⟩=some (.slice fa nf fc):=ceb (bla _ hx)
 have hsz:(w.alloc (.cells #[.int .i64 kd,.int .i64 nn,.int .i64 pp,.string (strN text),.slice ia ni ic,.slice ka nk kc,.slice fa nf fc] 67)).heap.size=w.heap.size+1:=by simp
 rw[hsz]at hcv hcs hcd hcb
 have HCB:=hide hcb
 have HCD:=hide hcd
 have HXX:=hide hx
 clear hcb hcd hx
 gi_wp2_with fail
 refine⟨trivial,(bi_ Fence.wide 2 trivial rfl _ _ _ _).mono ?_⟩
 rintro e w' ⟨rfl,rfl⟩
 gi_wp2_with fail
 have bD:((W1.alloc (.cells #[.slice (some ⟨w.heap.size+1,0,none⟩) text.length cap] 23)).alloc (.cells #[.slice fa nf fc] 52)).heap[W1.heap.size]?=some (.cells #[.slice (some ⟨w.heap.size+1,0,none⟩) text.length cap] 23 (0,0)):=bla _ (bln _ _)
 have bS:((W1.alloc (.cells #[.slice (some ⟨w.heap.size+1,0,none⟩) text.length cap] 23)).alloc (.cells #[.slice fa nf fc] 52)).heap[W1.heap.size+1]?=some (.cells #[.slice fa nf fc] 52 (0,0)):=by
  have:=bln (W1.alloc (.cells #[.slice (some ⟨w.heap.size+1,0,none⟩) text.length cap] 23)) (.cells #[.slice fa nf fc] 52)
  rwa [World.size_alloc]at this
 have b2:Below W1.heap.size W1 ((W1.alloc (.cells #[.slice (some ⟨w.heap.size+1,0,none⟩) text.length cap] 23)).alloc (.cells #[.slice fa nf fc] 52)):=((Below.refl _ _).alloc (Nat.le_refl _) _).alloc (by simp) _
 have hsz2:((W1.alloc (.cells #[.slice (some ⟨w.heap.size+1,0,none⟩) text.length cap] 23)).alloc (.cells #[.slice fa nf fc] 52)).heap.size=W1.heap.size+2:=by simp
 generalize ((W1.alloc (.cells #[.slice (some ⟨w.heap.size+1,0,none⟩) text.length cap] 23)).alloc (.cells #[.slice fa nf fc] 52))=W2 at *
 have hw1:=b1.size
 have b3:Below w.heap.size w W2:=b1.trans (b2.mono hw1)
 have hd2:Byts W2 (.slice (some ⟨w.heap.size+1,0,none⟩) text.length cap) text:=by
  refine Byts.below (w:=W1) ⟨⟨_,cap,rfl,HCD.o,hc1,hc2,fun h=>by cases h⟩,HB.o⟩ b2
 refine wpIn_rangeFunc_ownG rfl (by omega) (gf:= 287) (lb:=#[.pointer (some ⟨W1.heap.size+1,0,none⟩)]) rfl trivial (enters_of Tryz.func287 (by kernel_rfl) rfl)
  (bs_ Fence.wide 2 trivial rfl (by omega) (W1.heap.size+1) w.heap.size (.slice fa nf fc) fs (by omega) W2 (by omega) bS (HFS.o.below b3)) bKt (bKb (by omega) (by omega)) (Below.refl _ _) (fun _=>rfl)
  (PkI E W1.heap.size text w)
  (fun _ _ _=>False)
  (PkI.own _ _ _ _ _ (by omega))
  (fun _ _ _ _ _ hs _ _=>hs)
  ⟨⟨_,text,⟨ceb bD,frb bD⟩,hd2,rfl,by simp,by omega,fun g hg=>by cases hg;exact Nat.le_succ _⟩,b3⟩
  (fun x=>{ tmps:=#[.agg #[.int .i64 kd,.int .i64 nn,.int .i64 pp,.string (strN text),.slice ia ni ic,.slice ka nk kc,.slice fa nf fc],.pointer (some ⟨w.heap.size,0,none⟩),.slice none 0 0,.pointer (some ⟨W1.heap.size,0,none⟩),undef,.int .i64 (x.2.1:Nat),.pointer (some ⟨w.heap.size,3,none⟩),.string (strN text),.slice (some ⟨w.heap.size+1,0,none⟩) text.length cap,.pointer (some ⟨w.heap.size,6,none⟩),.slice fa nf fc,.func (.func 287) #[] #[.pointer (some ⟨W1.heap.size+1,0,none⟩)],.int .i64 (x.1:Int),.int .i64 (x.2.1:Nat),undef,undef,undef,undef],defers:=[] }) ?assign ?body ?done ?stop
 case assign =>
  intro l x W K hK
  gi_wp2
  exact hK
 case body =>
  rintro l pre x W ⟨⟨v,d,⟨hv1,hv2⟩,hd,hp,hdl,hDD,_⟩,hB⟩ hpre
  have hlp:d.length≤M:=by
   have h1:2^(pre.length+1)≤2^fs.length:=Nat.pow_le_pow_right (by omega) (by omega)
   have h2:=Nat.mul_le_mul_right (text.length+36) h1
   have h3:=HM.o
   rw[Nat.pow_succ,Nat.mul_comm (2^pre.length) 2,Nat.mul_assoc]at h2
   omega
  have HC:=hide (HE.o.call W v x.2.1 d x.2.2 hd hlp)
  have HD:=hide hd
  have HP:=hide hp
  have HDL:=hide hdl
  clear hd hp hdl
  have hDlt:W1.heap.size<W.heap.size:=World.block_lt_of_cell? W _ hv1
  gi_wp2_with fail
  refine⟨trivial,(CallsIn.inRound l (callsIn_wide.2 HC.o)).mono ?_⟩
  rintro e W3 ⟨u,enc,rfl,own,bw,hEn⟩
  have hv3:W3.cell? ⟨W1.heap.size,0,none⟩=some v:=(bw.cell (p:=⟨W1.heap.size,0,none⟩) hDlt).trans hv1
  have hf3:W3.frozen? ⟨W1.heap.size,0,none⟩=false:=(bw.frozen (p:=⟨W1.heap.size,0,none⟩) hDlt).trans hv2
  have own':=osC own ⟨W1.heap.size,0,none⟩ u (fun g hg=>by have:=(own.lt g hg).1;show g≠W1.heap.size;omega)
  obtain⟨ua,uc,rfl⟩:=ows own
  have HO:=hide own'
  have HW:=hide bw
  have HEN:=hide hEn
  clear own own' bw hEn HC
  gi_wp2
  have hk:KeepsOthers W W3:=⟨HW.o.size,fun k o h _=>(HW.o.block k (lt_of_block h)).trans h⟩
  have hb3:Below w.heap.size W (W3.setCell ⟨W1.heap.size,0,none⟩ (.slice ua enc.length uc)):=(HW.o.mono hB.size).setCell (p:=⟨W1.heap.size,0,none⟩) hw1 _
  have hlen:=HE.o.len _ _ _ HEN.o
  have hdl:=HDL.o
  refine⟨(hk.trans (KeepsOthers.setCell _ _ _)).from _,⟨hb3,?_⟩,⟨⟨_,enc,⟨World.cell?_setCell_same' _ _ _ (by rw[hv3];rfl),by rw[World.frozen?_setCell];exact hf3⟩,Byts.own HO.o (HE.o.byt _ _ _ HEN.o),?_,?_⟩,hB.trans hb3⟩⟩
  ·rw[Below.heap_setCell _ _ _ _ (by show W1.heap.size+1≠W1.heap.size;omega)]
   exact HW.o.block _ hDD
  ·rw[List.map_append,List.reverse_append]
   exact⟨d,HP.o,HEN.o⟩
  ·refine⟨?_,by rw[World.size_setCell];have:=HW.o.size;omega,fun g hg=>by have:=(HO.o.lt g hg).1;have:=hB.size;omega⟩
   rw[List.length_append,List.length_singleton,Nat.pow_succ,Nat.mul_comm (2^pre.length) 2,Nat.mul_assoc]
   omega
 case done =>
  rintro D ys W hD rfl ⟨⟨v,d,⟨hv1,hv2⟩,hd,hp,hdl,_,hnw⟩,hB⟩ hK
  gi_wp2
  refine⟨by simp,.inl ⟨_,_,rfl,run_takeDeferred hK,?_⟩⟩
  have hkk:=grownBy_putObj' W D (.deferred none)
  have hkr:∀ r,some D=some r→∃ o:Obj,W.heap[r]?=some o∧o.isCells=false:=fun r e=>by cases e;exact⟨_,hK,rfl⟩
  refine⟨_,results_tmp rfl _ _ _,v,d,rfl,hd.grown hkk hkr,hnw,hB.trans (belowK_b (w:=w) (Nat.le_refl _) W D _ _ (by omega) hK rfl rfl),?_,?_⟩
  ·have e:(backF fs fs.length).map (fun x=>x.2.1)=(fs.map fun x=>x.1).reverse:=by
    rw[←List.map_reverse,←bFa,List.map_map]
    rfl
   rw[e,List.reverse_reverse]at hp
   exact hp
  ·rw[bFl]at hdl
   exact hdl
 case stop =>
  rintro D c pre W _ _ h _
  exact h.elim
end
section
variable{w w':World}{B bf:Nat}{ov pv:Value}{out pl:List Nat}
def Fo.wstream(j:Nat)(V:Node (VT (j+2)))(d:List Nat):List Nat:=Fo.wv (k:=j+3) (Fo.sdict j V d.length)++([10,115,116,114,101,97,109,10]++(d++[10,101,110,100,115,116,114,101,97,109]))
structure SOk(j:Nat)(V:Node (VT (j+2)))(fs:List Fil):Prop where
 fil:V.filters=fs.map fun x=>x.1
 few:fs.length≤20
 byt:∀ x∈V.text,x<256
 items:∀ y∈V.items,WOk (k:=j+2) y
 keys:∀ s∈V.keys,∀ x∈s,x<256
 same:V.keys.length=V.items.length
 il:V.items.length≤500000
theorem Fo.nameB_small(f:Nat):(Fo.nameB f).size≤15∧∀ x∈bl (Fo.nameB f),x<256:=by
 refine⟨?_,fun x hx=>?_⟩
 ·unfold Fo.nameB;split<;>decide
 ·obtain⟨i,hi,rfl⟩:=List.getElem_of_mem hx
  rw[bll]at hi
  have:=bl_lt (Fo.nameB f) i hi
  simpa[nth,List.getElem?_eq_getElem (show i<(bl (Fo.nameB f)).length by rw[bll];exact hi)]using this
theorem leo{j:Nat}{kd:Nat}{n:Int}{t:List Nat}(hk:kd=2∨kd=4)(hn : -9223372036854775808≤n∧n≤9223372036854775807)(ht:∀ x∈t,x<256):WOk (k:=j+1) (leafN (VT j) kd n 0 t):=
 ⟨by show kd≤7∨kd=9;omega,hn,fun h3=>by have h3:kd=3:=h3;omega,fun h7=>by have h7:kd=7:=h7;omega,ht,fun s hs=>(by cases hs),fun y hy=>by cases hy⟩
theorem no0{j:Nat}(fs:List Nat):WOk (k:=j+2) (Fo.namesV j fs):=by
 refine⟨Or.inl (show(6:Nat)≤7 by omega),by show _≤(0:Int)∧(0:Int)≤_;omega,fun h=>by have h:(6:Nat)=3:=h;omega,fun h=>by have h:(6:Nat)=7:=h;omega,fun x hx=>(by cases hx),fun s hs=>(by cases hs),fun y hy=>?_⟩
 have hy2:y∈fs.map (fun f=>(leafN (VT j) 4 0 0 (bl (Fo.nameB f)):VT (j+1))):=hy
 obtain⟨f,_,rfl⟩:=List.mem_map.1 hy2
 exact leo (Or.inr rfl) (by omega) (Fo.nameB_small f).2
theorem SOk.dict{j:Nat}{V:Node (VT (j+2))}{fs:List Fil}(h:SOk j V fs)(n:Nat)(hn:n≤1000000000):WOk (k:=j+3) (Fo.sdict j V n)∧(Fo.sdict j V n).keys.length=(Fo.sdict j V n).items.length:=by
 have hl:(Fo.sdict j V n).keys.length=(Fo.sdict j V n).items.length:=by
  show(V.keys++Fo.skeys V.filters).length=(V.items++Fo.sitems j V.filters n).length
  rw[List.length_append,List.length_append,h.same]
  unfold Fo.skeys Fo.sitems
  split<;>rfl
 refine⟨⟨Or.inl (Nat.le_refl 7),by show _≤(0:Int)∧(0:Int)≤_;omega,fun h=>by have h:(7:Nat)=3:=h;omega,fun _=>hl,fun x hx=>(by cases hx),fun s hs x hx=>?_,fun y hy=>?_⟩,hl⟩
 ·have hs2:s∈V.keys++Fo.skeys V.filters:=hs
  rcases List.mem_append.1 hs2 with hs2 | hs2
  ·exact h.keys s hs2 x hx
  ·unfold Fo.skeys at hs2
   rcases List.mem_cons.1 hs2 with rfl | hs2
   ·simp at hx;omega
   ·split at hs2
    ·cases hs2
    ·simp at hs2;subst hs2;simp at hx;omega
 ·have hy2:y∈V.items++Fo.sitems j V.filters n:=hy
  rcases List.mem_append.1 hy2 with hy2 | hy2
  ·exact h.items y hy2
  ·unfold Fo.sitems at hy2
   rcases List.mem_cons.1 hy2 with rfl | hy2
   ·exact leo (Or.inl rfl) (by omega) (fun x hx=>by cases hx)
   ·split at hy2
    ·cases hy2
    ·simp at hy2;subst hy2;exact no0 _
theorem sum_le{α:Type}(f:α→Nat)(c:Nat):∀(l:List α),(∀ x∈l,f x≤c)→(l.map f).sum≤c*l.length
 | [],_=>by simp
 |a::l,h=>by
  have h1:=h a (List.mem_cons_self ..)
  have h2:=sum_le f c l (fun x hx=>h x (List.mem_cons_of_mem _ hx))
  simp only[List.map_cons,List.sum_cons,List.length_cons,Nat.mul_add,Nat.mul_one]
  omega
theorem SOk.wlen{j:Nat}{V:Node (VT (j+2))}{fs:List Fil}(h:SOk j V fs)(n:Nat):Fo.wlen (k:=j+3) (Fo.sdict j V n)≤Fo.wlen (k:=j+3) V+8000:=by
 have hN:Fo.wlen (k:=j+2) (Fo.namesV j V.filters)≤100+170*fs.length:=by
  have hl:(Node.items (α:=VT (j+1)) (Fo.namesV j V.filters)).length=fs.length:=by
   show(V.filters.map (fun f=>(leafN (VT j) 4 0 0 (bl (Fo.nameB f)):VT (j+1)))).length=_
   rw[List.length_map,h.fil,List.length_map]
  have:=sum_le (fun y:VT (j+1)=>10+Fo.wlen (k:=j+1) y) 170 (Node.items (α:=VT (j+1)) (Fo.namesV j V.filters)) (fun y hy=>by
   have hy2:y∈V.filters.map (fun f=>(leafN (VT j) 4 0 0 (bl (Fo.nameB f)):VT (j+1))):=hy
   obtain⟨f,_,rfl⟩:=List.mem_map.1 hy2
   show 10+(100+4*(bl (Fo.nameB f)).length+0+0)≤170
   rw[bll]
   have:=(Fo.nameB_small f).1
   omega)
  rw[hl]at this
  show 100+4*0+((Node.items (α:=VT (j+1)) (Fo.namesV j V.filters)).map fun y=>10+Fo.wlen (k:=j+1) y).sum+0≤_
  omega
 have hf:=h.few
 show 100+4*0+((V.items++Fo.sitems j V.filters n).map fun y=>10+Fo.wlen (k:=j+2) y).sum+((V.keys++Fo.skeys V.filters).map fun s=>10+3*s.length).sum≤100+4*V.text.length+(V.items.map fun y=>10+Fo.wlen (k:=j+2) y).sum+(V.keys.map fun s=>10+3*s.length).sum+8000
 rw[List.map_append,List.map_append,List.sum_append,List.sum_append]
 have h1:((Fo.sitems j V.filters n).map fun y=>10+Fo.wlen (k:=j+2) y).sum≤7040:=by
  have hl:(Fo.sitems j V.filters n).length≤2:=by
   unfold Fo.sitems
   split
   ·exact(show 1≤2 by omega)
   ·exact Nat.le_refl 2
  have:=sum_le (fun y:VT (j+2)=>10+Fo.wlen (k:=j+2) y) 3520 (Fo.sitems j V.filters n) (fun y hy=>by
   unfold Fo.sitems at hy
   rcases List.mem_cons.1 hy with rfl | hy
   ·show 10+(100+4*0+0+0)≤3520;omega
   ·split at hy
    ·cases hy
    ·simp at hy;subst hy;omega)
  have:=Nat.mul_le_mul_left 3520 hl
  omega
 have h2:((Fo.skeys V.filters).map fun s=>10+3*s.length).sum≤56:=by
  unfold Fo.skeys
  rw[List.map_cons,List.sum_cons]
  split<;>simp
 omega
theorem SOk.fils{j:Nat}{V:Node (VT (j+2))}{fs:List Fil}(h:SOk j V fs){P:Nat→Prop}{fa:Option Addr}{fc:Nat}(hrf:RowIn P w 3 1 (.slice fa V.filters.length fc) V.filters.length (V.filters.map fun f:Nat=>.int .i64 (f:Int))):FilsAt w.heap.size w (.slice fa V.filters.length fc) fs:=by
 have hfs:=h.fil
 rcases hrf.1.2 with⟨h1,h2⟩ | ⟨g,c,cur,e1,e2,hg,hn,hm,hsz,hc⟩
 ·refine Or.inl ⟨h1,?_⟩
  have h3:(fs.map fun x=>x.1).length=0:=by rw[←hfs];exact h2
  simpa using h3
 ·refine Or.inr ⟨g,c,?_,lt_of_block hg,fun i hi=>?_⟩
  ·rw[e1,hfs,List.length_map]
  ·rw[ceb hg,←Array.getElem?_toList]
   have hi2:i<V.filters.length:=by rw[hfs,List.length_map];exact hi
   rw[←List.getElem?_take_of_lt (show i<V.filters.length*1 by omega),hc,hfs,List.getElem?_map,List.getElem?_map,List.getElem?_eq_getElem hi]
   simp
theorem OutW.drew(h:OutW B bf w ov pv out pl):OutW B bf w.drew ov pv out pl:=⟨h.hb,h.blk,h.oo,h.po⟩
theorem OutW.place{v:Value}{p:Nat}(h:OutW B bf w ov pv out pl)(hv:w'.ownsRow B 3 1 v (pl.length+1) ((pl.map fun x:Nat=>.int .i64 (x:Int))++[.int .i64 (p:Int)]))(hg:w.grownBy w' pv.ownBlock) :
  OutW B bf (w'.setCell ⟨bf,1,none⟩ v) ov v out (pl++[p])∧Below B w (w'.setCell ⟨bf,1,none⟩ v):=by
 have hnp:∀ g,pv.ownBlock=some g→g≠bf:=fun g hg=>by
  rintro rfl
  obtain⟨_,c,f,hc⟩:=owr h.po g hg
  rw[h.blk]at hc
  simp at hc
 have hb':w'.heap[bf]?=some (.cells #[ov,pv] 122 (0,0)):=by rw[hg.block bf h.lt (fun e=>hnp bf e.symm rfl)];exact h.blk
 have hb2:(w'.setCell ⟨bf,1,none⟩ v).heap[bf]?=some (.cells #[ov,v] 122 (0,0)):=by rw[bsC _ hb'];rfl
 have hnv:∀ g,v.ownBlock=some g→g≠bf:=fun g hg2=>by
  rintro rfl
  obtain⟨_,c,f,hc⟩:=owr hv g hg2
  rw[hb']at hc
  simp at hc
 have hoo:w'.ownsRow B 5 1 ov out.length (byv out):=by
  obtain⟨h1,h2⟩:=h.oo
  refine⟨h1,?_⟩
  rcases h2 with h2 | ⟨g,c,cur,e1,e2,hh,hc⟩
  ·exact Or.inl h2
  ·refine Or.inr ⟨g,c,cur,e1,e2,?_,hc⟩
   rw[hg.block g (lt_of_block hh) (fun e=>?_)]
   ·exact hh
   ·obtain⟨_,c2,f2,hc2⟩:=owr h.po g e.symm
    rw[hh]at hc2
    simp at hc2
 refine⟨⟨h.hb,hb2,osC hoo _ _ (fun g hg=>h.ne g hg),?_⟩,?_⟩
 ·have:=osC hv ⟨bf,1,none⟩ v hnv
  rw[List.length_append,List.map_append]
  exact this
 ·refine Below.setCell (p:=⟨bf,1,none⟩) ⟨hg.os,hg.tape,hg.output,hg.size,fun k hk=>hg.block k (Nat.lt_of_lt_of_le hk h.bw) (fun e=>?_)⟩ h.hb v
  have:=(owr h.po k e.symm).1
  omega
theorem iIY:(Tryz.prog.info? 3).map (fun i=>(i.zero,i.size,i.bytes))=some (some (.int .i64 0),1,8):=by kernel_rfl
theorem newsI{w:World}{a:Nat}:∀(j:Nat) (u:Value),[Value.int .i64 (a:Int)][j]?=some u→(w.alloc (.cells #[.int .i64 (a:Nat)] 3)).cell? ((⟨w.heap.size,0,none⟩:Addr).add j)=some u:=by
 intro j u h
 match j,h with
 |0,h=>cases h;rw[aa,ceb (bln w _)];rfl
 |j+1,h=>simp at h
def Fo.wohead(n:Int):List Nat:=Fo.wint n++[32,48,32,111,98,106,10]
theorem wo_0{E:Nat}{R:List Nat→Prop}{L:Nat}{n:Int}{kd nn pp:Int}{tx:ByteArray}{ia ka fa:Option Addr}{ni ic nk kc nf fc:Nat}(he:Env E w)(hR:∀ more,R more→more.length≤L)(hEB:E≤B)(h:OutW B bf w ov pv out pl)(hn1 : -9223372036854775808≤n)(hn2:n≤9223372036854775807)(hpl:pl.length≤1000000)(hlen:out.length+100+L≤500000000)
  (hbody:∀(W:World) (o1 p1:Value),OutW B bf W o1 p1 (out++Fo.wohead n) (pl++[out.length])→Below B w W→Calls Tryz.prog (bif kd==8 then 131 else 132) #[.pointer (some ⟨bf,0,none⟩),.agg #[.int .i64 kd,.int .i64 nn,.int .i64 pp,.string tx,.slice ia ni ic,.slice ka nk kc,.slice fa nf fc]] W fun e w'=>∃ more,R more∧WrOut B bf W p1 (out++Fo.wohead n) (pl++[out.length]) more e w') :
  Calls Tryz.prog 93 #[.pointer (some ⟨bf,0,none⟩),.int .i64 n,.agg #[.int .i64 kd,.int .i64 nn,.int .i64 pp,.string tx,.slice ia ni ic,.slice ka nk kc,.slice fa nf fc]] w fun e w'=>e=.returned (.tuple #[])∧∃ more o1 p1,R more∧OutW B bf w' o1 p1 (out++(Fo.wohead n++(more++[10,101,110,100,111,98,106,10]))) (pl++[out.length])∧Below B w w':=by
 obtain⟨i0,hi,hz0,hz1,hz2⟩:=info_parts iIY
 obtain⟨pa,pc,hpv⟩:=ows h.po
 subst hpv
 obtain⟨va,vc,hov⟩:=ows h.oo
 subst hov
 have h1:=h.alloc (.cells #[.int .i64 kd,.int .i64 nn,.int .i64 pp,.string tx,.slice ia ni ic,.slice ka nk kc,.slice fa nf fc] 67)
 have b1:Below B w (w.alloc (.cells #[.int .i64 kd,.int .i64 nn,.int .i64 pp,.string tx,.slice ia ni ic,.slice ka nk kc,.slice fa nf fc] 67)):=(Below.refl _ _).alloc h.bw _
 have hx0:(w.alloc (.cells #[.int .i64 kd,.int .i64 nn,.int .i64 pp,.string tx,.slice ia ni ic,.slice ka nk kc,.slice fa nf fc] 67)).heap[w.heap.size]?=some (.cells #[.int .i64 kd,.int .i64 nn,.int .i64 pp,.string tx,.slice ia ni ic,.slice ka nk kc,.slice fa nf fc] 67 (0,0)):=bln _ _
 have HXB:Hid (bf<w.heap.size):=h.lt
 go_enter Tryz.func93,Tryz.ntmps93
 go_wp2_with fail
 generalize hW1:w.alloc (.cells #[.int .i64 kd,.int .i64 nn,.int .i64 pp,.string tx,.slice ia ni ic,.slice ka nk kc,.slice fa nf fc] 67)=w1 at *
 have c0:w1.cell? ⟨bf,0,none⟩=some (.slice va out.length vc):=ceb h1.blk
 have c1:w1.cell? ⟨bf,1,none⟩=some (.slice pa pl.length pc):=ceb h1.blk
 have H1:=hide h1
 have hB1:B≤w1.heap.size:=h1.bw
 have HB6:Hid (∀ W,(w1.drew.alloc (.cells #[.int .i64 (out.length:Int)] 3)).grownBy W (Value.slice pa pl.length pc).ownBlock→W.heap[bf]?=some (.cells #[.slice va out.length vc,.slice pa pl.length pc] 122 (0,0))):=fun W hg=>by
  have ha:=h1.drew.alloc (.cells #[.int .i64 (out.length:Int)] 3)
  rw[hg.block bf ha.lt (fun e=>by
   obtain⟨_,c,f,hc⟩:=owr ha.po bf e.symm
   rw[ha.blk]at hc
   simp at hc)]
  exact ha.blk
 have HX6:Hid (∀ W,(w1.drew.alloc (.cells #[.int .i64 (out.length:Int)] 3)).grownBy W (Value.slice pa pl.length pc).ownBlock→W.heap[w.heap.size]?=some (.cells #[.int .i64 kd,.int .i64 nn,.int .i64 pp,.string tx,.slice ia ni ic,.slice ka nk kc,.slice fa nf fc] 67 (0,0))):=fun W hg=>by
  have ha:=h1.drew.alloc (.cells #[.int .i64 (out.length:Int)] 3)
  have hx1:(w1.drew.alloc (.cells #[.int .i64 (out.length:Int)] 3)).heap[w.heap.size]?=some (.cells #[.int .i64 kd,.int .i64 nn,.int .i64 pp,.string tx,.slice ia ni ic,.slice ka nk kc,.slice fa nf fc] 67 (0,0)):=bla _ hx0
  rw[hg.block _ (lt_of_block hx1) (fun e=>by
   obtain⟨_,c,f,hc⟩:=owr ha.po _ e.symm
   rw[hx1]at hc
   simp at hc)]
  exact hx1
 have c1a:(w1.alloc (.cells #[.int .i64 (out.length:Int)] 3)).cell? ⟨bf,1,none⟩=some (.slice pa pl.length pc):=by rw[ceb (h1.alloc _).blk];rfl
 clear h1 h
 go_region_law (refine sao rfl (.tmp 10) (.tmp 16) 52 rfl B 3 i0 (.int .i64 0) 1 8 Tryz.underlying52 hi hz0 hz1 hz2 rfl (by decide) (.slice pa pl.length pc) pl.length _ rfl (H1.o.drew.alloc _).po ⟨w1.heap.size,0,none⟩ 1 1 [.int .i64 (out.length:Int)] rfl rfl ?hnews ?hone ?h63 ?hby ?hb ?_;(case hnews=>exact newsI);(case hone=>intro u hu;simp at hu;subst hu;rfl);(case h63=>unfold maxLen;omega);(case hby=>omega);(case hb=>simp;omega);intro v6 w6 own6 hg6 _;have HG:=hide ((H1.o.drew.alloc (.cells #[.int .i64 (out.length:Int)] 3)).place own6 hg6);have hb6:w6.heap[bf]?=some (.cells #[.slice va out.length vc,.slice pa pl.length pc] 122 (0,0)):=HB6.o w6 hg6;have HX:=hide (HX6.o w6 hg6);have c6:w6.cell? ⟨bf,1,none⟩=some (.slice pa pl.length pc):=(ceb hb6);have f6:w6.frozen? ⟨bf,1,none⟩=false:=frb hb6;obtain⟨a6,e6,hv6⟩:=ows own6;subst hv6;clear own6 hg6 hb6)
 all_goals (
  have hx2:(w6.setCell ⟨bf,1,none⟩ (.slice a6 (pl.length+1) e6)).heap[w.heap.size]?=some (.cells #[.int .i64 kd,.int .i64 nn,.int .i64 pp,.string tx,.slice ia ni ic,.slice ka nk kc,.slice fa nf fc] 67 (0,0)):=by rw[bsCn _ (by have:=HXB.o;omega)];exact HX.o
  have h2:=HG.o.1
  have b2:Below B w (w6.setCell ⟨bf,1,none⟩ (.slice a6 (pl.length+1) e6)):=((b1.drew.alloc (by exact hB1) _).trans HG.o.2)
  clear HG HX c6 f6
  go_wp2_with fail
  generalize hW2:w6.setCell ⟨bf,1,none⟩ (.slice a6 (pl.length+1) e6)=w2 at *
  refine(wio (he.low (b2.mono hEB)) (Nat.le_trans hEB h2.bw) n hn1 hn2).mono ?_
  rintro e w3 ⟨S,rfl,hS,b3⟩
  have hsl:S.size≤20:=by rw[←bll,hS];exact Fo.wint_len hn1 hn2
  have HP:=hide (wput2 (h2.below b3) S { data:=#[32,48,32,111,98,106,10] } (by show _+(_+7)≤_;omega))
  rw[hS]at HP
  have hx3:w3.heap[w.heap.size]?=_:=(b3.block _ (lt_of_block hx2)).trans hx2
  have B3:=hide (b2.trans (b3.mono h2.bw))
  have hbw3:B≤w3.heap.size:=(h2.below b3).bw
  clear hS b3 h2 b2 hx2 hW2 hx0 c0 c1 c1a
  go_wp2_with fail
  refine HP.o.mono ?_
  rintro e w4 ⟨rfl,o4,h4,k4⟩
  have hx4:w4.heap[w.heap.size]?=_:=k4.block _ _ (by simp;have:=HXB.o;omega) hx3 (Or.inr fun c fz e=>by cases e)
  have b4:Below B w w4:=B3.o.trans (Kept.below k4.toKept hbw3 (fun g hg=>by simp at hg;subst hg;exact h4.hb))
  have HB:=hide (hbody w4 o4 _ h4 b4)
  have B4:=hide b4
  have hbw4:=h4.bw
  have d0:w4.cell? ⟨w.heap.size,0,none⟩=some (.int .i64 kd):=ceb hx4
  have d1:w4.cell? ⟨w.heap.size,1,none⟩=some (.int .i64 nn):=ceb hx4
  have d2:w4.cell? ⟨w.heap.size,2,none⟩=some (.int .i64 pp):=ceb hx4
  have d3:w4.cell? ⟨w.heap.size,3,none⟩=some (.string tx):=ceb hx4
  have d4:w4.cell? ⟨w.heap.size,4,none⟩=some (.slice ia ni ic):=ceb hx4
  have d5:w4.cell? ⟨w.heap.size,5,none⟩=some (.slice ka nk kc):=ceb hx4
  have d6:w4.cell? ⟨w.heap.size,6,none⟩=some (.slice fa nf fc):=ceb hx4
  clear hx3 hx4 k4 h4 b4 HP hbody
  cases hk:(kd==8)
  all_goals
   rw[hk]at HB
   go_wp2_with fail
   refine HB.o.mono ?_
   rintro e w5 ⟨more,hm,rfl,o5,h5,k5⟩
   have hml:=hR more hm
   have HM:=hide hm
   have hwl:=Fo.wint_len hn1 hn2
   have HP:=hide (wput1 h5 { data:=#[10,101,110,100,111,98,106,10] } (by show _+8≤_;unfold Fo.wohead;simp only[List.length_append,List.length_cons,List.length_nil];omega))
   have B5:=hide (B4.o.trans (Kept.below k5.toKept hbw4 (fun g hg=>by simp at hg;subst hg;exact h5.hb)))
   have hbw5:=h5.bw
   clear h5 k5 HB d0 d1 d2 d3 d4 d5 d6
   go_wp2_with fail
   refine HP.o.mono ?_
   rintro e w7 ⟨rfl,o7,h7,k7⟩
   have H7:=hide h7
   have B7:=hide (B5.o.trans (Kept.below k7.toKept hbw5 (fun g hg=>by simp at hg;subst hg;exact h7.hb)))
   clear h7 k7 HP
   go_wp2
   go_end0
   have h9:=H7.o
   rw[List.append_assoc,List.append_assoc]at h9
   exact⟨rfl,more,o7,_,HM.o,h9,B7.o⟩)
theorem Byts.outk{v o2 pv2:Value}{l out2 pl2:List Nat}(h:Byts w v l)(ho:OutW B bf w ov pv out pl)(k:OutK B bf w w')(ho2:OutW B bf w' o2 pv2 out2 pl2)(hne:0<l.length→∀ g,v.ownBlock=some g→ov.ownBlock≠some g):Byts w' v l∧(0<l.length→∀ g,v.ownBlock=some g→o2.ownBlock≠some g):=by
 obtain⟨⟨ao,cap,rfl,hd,h1⟩,hb⟩:=h
 have key:∀ i,i<l.length→∃ b o,ao=some ⟨b,o,none⟩∧b<w'.heap.size∧w'.cell? ⟨b,o+i,none⟩=some (.int .u8 (nth l i:Nat))∧o2.ownBlock≠some b:=fun i hi=>by
  obtain⟨b,o,rfl,h2,h3⟩:=hd i hi
  have hbf:b≠bf:=by
   rintro rfl
   rw[ceb ho.blk]at h3
   obtain⟨a1,c1,e1⟩:=ows ho.oo
   obtain⟨a2,c2,e2⟩:=ows ho.po
   rw[e1,e2]at h3
   generalize o+i=z at h3
   match z,h3 with
   |0,h3=>simp at h3
   |1,h3=>simp at h3
   |n+2,h3=>simp at h3
  obtain⟨x,hx⟩:∃ x,w.heap[b]?=some x:=⟨_,Array.getElem?_eq_getElem h2⟩
  have h4:=k.prot ho.lt b x hx hbf (fun hp=>hne (by omega) b rfl ((Pts.of ho.blk).1 hp))
  refine⟨b,o,rfl,lt_of_block h4.1,?_,fun e=>h4.2 ((Pts.of ho2.blk).2 e)⟩
  rw[←h3]
  exact World.cell?_of_block (w:=w) (h4.1.trans hx.symm)
 refine⟨⟨⟨ao,cap,rfl,fun i hi=>?_,h1⟩,hb⟩,fun h0 g hg=>?_⟩
 ·obtain⟨b,o,e,h2,h3,_⟩:=key i hi
  exact⟨b,o,e,h2,h3⟩
 ·obtain⟨b,o,e,_,_,h3⟩:=key 0 h0
  subst e
  cases hg
  exact h3
theorem Byts.news{a:Addr}{n c:Nat}{l:List Nat}(h:Byts w (.slice (some a) n c) l):n=l.length∧(∀(j:Nat) (u:Value),(byv l)[j]?=some u→w.cell? (a.add j)=some u):=by
 obtain⟨⟨ao,cap,e,hd,h1⟩,hb⟩:=h
 cases e
 refine⟨rfl,fun j u hu=>?_⟩
 have hj:j<l.length:=by
  have:=(List.getElem?_eq_some_iff.1 hu).1
  simpa[byv]using this
 obtain⟨b,o,e,h2,h3⟩:=hd j hj
 cases e
 have e2:(⟨b,o,none⟩:Addr).add j=⟨b,o+j,none⟩:=by unfold Addr.add;split<;>simp_all
 rw[e2,h3,←hu]
 simp[byv,nth,List.getElem?_eq_getElem hj]
theorem wo1{j Ev M:Nat}{EE:Nat→List Nat→List Nat→Prop}(hE:EncBy EE M)(hM0:M≤1000000)(he:Env Ev w)(hEB:Ev≤B)(h:OutW B bf w ov pv out pl){P:Nat→Prop}{V:Node (VT (j+2))}{v:Value}{fs:List Fil}(hv:VIn P (j+3) w v V)(hok:SOk j V fs)(hM:2^fs.length*(V.text.length+36)≤2*M)(hM1:V.text.length≤M)(hlen:out.length+Fo.wlen (k:=j+3) V+10000+2*M≤500000000) :
  Calls Tryz.prog 131 #[.pointer (some ⟨bf,0,none⟩),v] w fun e w'=>∃ more,(∃ d,PT EE V.filters V.text d∧d.length+36≤2^fs.length*(V.text.length+36)∧(∀ x∈d,x<256)∧more=Fo.wstream j V d)∧WrOut B bf w pv out pl more e w':=by
 obtain⟨i1,gi,gz0,gz1,gz2⟩:=info_parts Tryz.infoByte
 have HV:=hide hv
 obtain⟨iv,kv,fv,vs,rfl,hvl,hri,hvs,hrk,hrf⟩:=hv
 rw[hvl]at hri
 obtain⟨ia,ic,rfl⟩:=ows hri.1
 obtain⟨ka,kc,rfl⟩:=ows hrk.1
 obtain⟨fa,fc,rfl⟩:=ows hrf.1
 obtain⟨va,vc,hov⟩:=ows h.oo
 subst hov
 have hFA:=hok.fils hrf
 have HOK:=hide hok
 have HMM:=hide (And.intro hM hM1)
 have HH:=hide h
 have HEN:=hide he
 have hx0:(w.alloc (.cells #[.int .i64 (V.kind:Int),.int .i64 V.n,.int .i64 (V.places:Int),.string (strN V.text),.slice ia V.items.length ic,.slice ka V.keys.length kc,.slice fa V.filters.length fc] 67)).heap[w.heap.size]?=some (.cells #[.int .i64 (V.kind:Int),.int .i64 V.n,.int .i64 (V.places:Int),.string (strN V.text),.slice ia V.items.length ic,.slice ka V.keys.length kc,.slice fa V.filters.length fc] 67 (0,0)):=bln _ _
 have b0:Below w.heap.size w (w.alloc (.cells #[.int .i64 (V.kind:Int),.int .i64 V.n,.int .i64 (V.places:Int),.string (strN V.text),.slice ia V.items.length ic,.slice ka V.keys.length kc,.slice fa V.filters.length fc] 67)):=(Below.refl _ _).alloc (Nat.le_refl _) _
 have HPK:=hide (po_0 hE (w:=w.alloc (.cells #[.int .i64 (V.kind:Int),.int .i64 V.n,.int .i64 (V.places:Int),.string (strN V.text),.slice ia V.items.length ic,.slice ka V.keys.length kc,.slice fa V.filters.length fc] 67)) hok.byt (by omega) (FilsAt.mono (hFA.below b0) (by simp)) hok.few hM hM1 (kd:=V.kind) (nn:=V.n) (pp:=V.places) (ia:=ia) (ka:=ka) (ni:=V.items.length) (ic:=ic) (nk:=V.keys.length) (kc:=kc))
 unfold nV
 clear hri hrk hrf hvs hFA hvl h hE hM hM1 he
 go_enter Tryz.func131,Tryz.ntmps131
 go_wp2_with fail
 refine HPK.o.mono ?_
 rintro e w1 ⟨dv,d,rfl,hby,hnw,b1,hpk,hdl⟩
 have hx1:=(b1.block w.heap.size (by simp)).trans hx0
 have d0:w1.cell? ⟨w.heap.size,0,none⟩=some (.int .i64 (V.kind:Int)):=ceb hx1
 have d1:w1.cell? ⟨w.heap.size,1,none⟩=some (.int .i64 V.n):=ceb hx1
 have d2:w1.cell? ⟨w.heap.size,2,none⟩=some (.int .i64 (V.places:Int)):=ceb hx1
 have d3:w1.cell? ⟨w.heap.size,3,none⟩=some (.string (strN V.text)):=ceb hx1
 have d4:w1.cell? ⟨w.heap.size,4,none⟩=some (.slice ia V.items.length ic):=ceb hx1
 have d5:w1.cell? ⟨w.heap.size,5,none⟩=some (.slice ka V.keys.length kc):=ceb hx1
 have d6:w1.cell? ⟨w.heap.size,6,none⟩=some (.slice fa V.filters.length fc):=ceb hx1
 have b01:Below w.heap.size w w1:=b0.trans (b1.mono (by simp))
 have h1:=(HH.o.alloc (.cells #[.int .i64 (V.kind:Int),.int .i64 V.n,.int .i64 (V.places:Int),.string (strN V.text),.slice ia V.items.length ic,.slice ka V.keys.length kc,.slice fa V.filters.length fc] 67)).below b1
 have K1:=hide (OutK.of_below (B:=B) (bf:=bf) (b:=0) b01)
 have hdb:d.length≤2*M:=by have:=HMM.o.1;omega
 have HSD:=hide (wo3 (w:=w1) (HV.o.keep _ (fun g _ hg=>b01.block g hg)) HOK.o.fil (by have:=HOK.o.few;omega) HOK.o.il (by rw[HOK.o.same];exact HOK.o.il) d.length)
 have hne1:0<d.length→∀ g,dv.ownBlock=some g→(Value.slice va out.length vc).ownBlock≠some g:=fun _ g hg he=>by
  have h1:=hnw g hg
  have h2:=(HH.o.oo.lt g he).2
  simp at h1
  omega
 obtain⟨da,dc,rfl,hdx⟩:=hby.sl
 have HDX:=hide hdx
 have HNE:=hide hne1
 have HBY:=hide hby
 have HPT:=hide (And.intro hpk hdl)
 have H1:=hide h1
 clear b0 b1 hx0 hx1 h1 hdx hby hnw hpk hdl hne1 HPK b01
 go_wp2_with fail
 refine HSD.o.mono ?_
 rintro e w2 ⟨v',rfl,hin2,b2⟩
 have h2:=H1.o.below b2
 have K2:=hide (K1.o.trans (OutK.of_below (b:=0) b2))
 have BY2:=hide (HBY.o.below b2)
 have hwl:=HOK.o.wlen d.length
 have HD:=hide (wdo (wvo (j+2)) (HEN.o.outk hEB HH.o K2.o) hEB h2 hin2 (HOK.o.dict d.length (by omega)).1 (HOK.o.dict d.length (by omega)).2 (by omega))
 have H2:=hide h2
 clear h2 b2 hin2 HSD H1 K1 HBY d0 d1 d2 d3 d4 d5 d6
 go_wp2_with fail
 refine HD.o.mono ?_
 intro e w3 hr3
 change WrOut B bf w2 pv out pl (Fo.wv (k:=j+3) (Fo.sdict j V d.length)) e w3 at hr3
 obtain⟨rfl,ov3,h3,k3⟩:=hr3
 obtain⟨BY3,NE3⟩:=BY2.o.outk H2.o k3 h3 HNE.o
 have hl3:=Fo.wv_len (HOK.o.dict d.length (by omega)).1
 have hl3o:(out++Fo.wv (k:=j+3) (Fo.sdict j V d.length)).length≤out.length+Fo.wlen (k:=j+3) V+8000:=by rw[List.length_append];omega
 have HP:=hide (wput1 h3 { data:=#[10,115,116,114,101,97,109,10] } (by show _+8≤_;omega))
 have K3:=hide (K2.o.trans k3)
 have BY3:=hide BY3
 have NE3:=hide NE3
 have H3:=hide h3
 clear h3 k3 HD BY2 K2 H2 hl3 HNE
 generalize hO3:out++Fo.wv (k:=j+3) (Fo.sdict j V d.length)=O3 at *
 go_wp2_with fail
 refine HP.o.mono ?_
 rintro e w4 ⟨rfl,ov4,h4,k4⟩
 have hl4:(O3++bl { data:=#[10,115,116,114,101,97,109,10] }).length=O3.length+8:=by rw[List.length_append];rfl
 obtain⟨BY4,NE4⟩:=BY3.o.outk H3.o k4 h4 NE3.o
 have K4:=hide (K3.o.trans k4)
 have BY4:=hide BY4
 obtain⟨oa,oc,hov4⟩:=ows h4.oo
 subst hov4
 have hblk:=h4.blk
 have c0:w4.cell? ⟨bf,0,none⟩=some (.slice oa (O3++bl { data:=#[10,115,116,114,101,97,109,10] }).length oc):=ceb hblk
 have f0:w4.frozen? ⟨bf,0,none⟩=false:=frb hblk
 have H4:=hide h4
 clear h4 k4 HP K3 BY3 NE3 H3 NE4
 generalize hO4:O3++bl { data:=#[10,115,116,114,101,97,109,10] }=O4 at *
 have hbw:=H4.o.bw
 have hl4m:O4.length≤400000000+out.length+Fo.wlen (k:=j+3) V:=by omega
 have HL4:Hid (O4.length+2*M+1000≤500000000):=by unfold Hid;omega
 clear hl4 hl4m
 cases da with
 |none =>
  have hd0:d.length=0:=by
   obtain⟨_,h1,_,h2⟩:=HDX.o
   have:=h2 rfl
   omega
  have hc0:dc=0:=HDX.o.2.2.2 rfl
  rw[hd0,hc0]
  have hdn:d=[]:=List.length_eq_zero_iff.1 hd0
  have HG:=H4.o.set (OutK.refl _ _ _) hblk (fun g e=>Or.inl e) H4.o.oo
  clear hd0 hc0
  have HG:OutW B bf (w4.setCell ⟨bf,0,none⟩ (.slice oa O4.length oc)) (.slice oa O4.length oc) pv (O4++d) pl∧OutK B bf w4 (w4.setCell ⟨bf,0,none⟩ (.slice oa O4.length oc)):=by rw[hdn,List.append_nil];exact HG
  go_wp2_with (at_builtin;refine wpList_append_own_none rfl (.tmp 20) (.tmp 21) 23 rfl B 5 i1 1 Tryz.underlying23 gi _ O4.length _ rfl H4.o.oo rfl ?_)
  have HP:=hide (wput1 HG.1 { data:=#[10,101,110,100,115,116,114,101,97,109] } (by have:=HL4.o;show _+10≤_;rw[List.length_append];omega))
  rw[World.size_setCell]at HP
  have K6:=hide (K4.o.trans HG.2)
  clear hblk HG
  go_wp2_with fail
  refine HP.o.mono ?_
  rintro e w7 ⟨rfl,ov7,h7,k7⟩
  have H7:=hide h7
  have K7:=hide (K6.o.trans k7)
  clear h7 k7 HP K6
  go_wp2
  go_end0
  refine⟨_,⟨d,by rw[HOK.o.fil];exact HPT.o.1,HPT.o.2,BY4.o.byt,rfl⟩,rfl,ov7,?_,K7.o⟩
  have h9:=H7.o
  rw[←hO4,←hO3]at h9
  unfold Fo.wstream
  simp only[List.append_assoc]at h9 ⊢
  exact h9
 |some a =>
  obtain⟨_,hnews⟩:=BY4.o.news
  have HNW:=hide hnews
  clear hnews
  go_wp2_with (at_builtin;refine Go.wpList_append_where _ rfl (.tmp 20) (.tmp 21) 23 rfl B 5 i1 (.int .u8 0) 1 1 Tryz.underlying23 gi gz0 gz1 gz2 rfl (by decide) _ O4.length _ rfl H4.o.oo a d.length dc (byv d) rfl (by simp[byv]) ?hnews ?hone ?h63 ?hby ?hbs ?_)
  case hnews=>exact HNW.o
  case hone=>intro u hu;obtain⟨x,_,rfl⟩:=List.mem_map.1 hu;rfl
  case h63=>have:=HL4.o;unfold maxLen;omega
  case hby=>have:=HL4.o;omega
  case hbs=>exact hbw
  intro v6 w6 own6 hg6 hw6
  have hb6:w6.heap[bf]?=some (.cells #[.slice oa O4.length oc,pv] 122 (0,0)):=by rw[hg6.block bf (lt_of_block hblk) (fun e=>H4.o.ne bf e.symm rfl)];exact hblk
  have HG:=H4.o.grow (OutK.refl _ _ _) rfl H4.o.oo hg6 hw6 own6 rfl
  obtain⟨va6,vc6,hv6⟩:=ows own6
  subst hv6
  have c6:w6.cell? ⟨bf,0,none⟩=some (.slice oa O4.length oc):=ceb hb6
  have f6:w6.frozen? ⟨bf,0,none⟩=false:=frb hb6
  have HP:=hide (wput1 HG.1 { data:=#[10,101,110,100,115,116,114,101,97,109] } (by have:=HL4.o;show _+10≤_;rw[List.length_append];omega))
  rw[World.size_setCell]at HP
  have K6:=hide (K4.o.trans HG.2)
  clear own6 hg6 hw6 hb6 hblk HG
  go_wp2_with fail
  refine HP.o.mono ?_
  rintro e w7 ⟨rfl,ov7,h7,k7⟩
  have H7:=hide h7
  have K7:=hide (K6.o.trans k7)
  clear h7 k7 HP K6
  go_wp2
  go_end0
  refine⟨_,⟨d,by rw[HOK.o.fil];exact HPT.o.1,HPT.o.2,BY4.o.byt,rfl⟩,rfl,ov7,?_,K7.o⟩
  have h9:=H7.o
  rw[←hO4,←hO3]at h9
  unfold Fo.wstream
  simp only[List.append_assoc]at h9 ⊢
  exact h9
end
end Go.Proofs.YtgkljcmjnphpeaaGreatDoor
