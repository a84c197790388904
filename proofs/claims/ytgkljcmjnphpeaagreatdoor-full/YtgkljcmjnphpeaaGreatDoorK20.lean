import Derived.Test.YtgkljcmjnphpeaaGreatDoorK19
set_option linter.unusedVariables false
set_option linter.unusedSimpArgs false
set_option maxHeartbeats 4000000
set_option maxRecDepth 100000
namespace Go.Proofs.YtgkljcmjnphpeaaGreatDoor
open Go.RowKit
section
variable{w w':World}
namespace Fo
def stepW(objs k nodes:Nat)(V:Node (VT k)):Option Nat:=if oneOk objs (12-k) nodes V=true then walk objs k (nodes+V.items.length) V.items else none
theorem walk_cons(objs k nodes:Nat)(V:VT (k+1))(l:List (VT (k+1))):walk objs (k+1) nodes (V::l)=match stepW objs k nodes V with | none=>none | some n=>walk objs (k+1) n l:=by
 show(stepW objs k nodes V >>= fun n=>walk objs (k+1) n l)=_
 cases stepW objs k nodes V<;>rfl
theorem wab(objs:Nat):∀(k nodes:Nat) (l:List (VT k)) (n:Nat),walk objs k nodes l=some n→nodes≤n∧(nodes≤2000→n≤2000)
 |0,nodes,l,n,h=>by cases h;exact⟨Nat.le_refl _,id⟩
 |k+1,nodes,[],n,h=>by cases h;exact⟨Nat.le_refl _,id⟩
 |k+1,nodes,V::l,n,h=>by
  rw[walk_cons]at h
  cases e:stepW objs k nodes V with
  |none=>rw[e]at h;cases h
  |some m =>
   rw[e]at h
   have h2:=wab objs (k+1) m l n h
   unfold stepW at e
   split at e
   ·next ho =>
    have h1:=wab objs k _ _ _ e
    have h3:nodes+(Node.items V).length≤2000:=by
     unfold oneOk at ho
     simp at ho
     exact ho.1.1.1.1
    exact⟨by omega,fun _=>h2.2 (h1.2 h3)⟩
   ·cases e
theorem stepW_bound{objs k nodes m:Nat}{V:Node (VT k)}(e:stepW objs k nodes V=some m):nodes≤m∧m≤2000:=by
 unfold stepW at e
 split at e
 ·next ho =>
  have h1:=wab objs k _ _ _ e
  have h3:nodes+(Node.items V).length≤2000:=by
   unfold oneOk at ho
   simp at ho
   exact ho.1.1.1.1
  exact⟨by omega,h1.2 h3⟩
 ·cases e
end Fo
theorem Vals.apart{P:Nat→Prop}{k b wb objs nodes:Nat}{Ys:List (VT k)}{v:Value}(h:Vals P k b Ys w v)(hw:WkIn wb objs nodes w)(g:Nat)(hg:v.ownBlock=some g):g≠wb:=by
 obtain⟨xs,h1,_,_⟩:=h
 obtain⟨_,c,f,hc⟩:=owr h1 g hg
 rintro rfl
 unfold WkIn at hw
 rw[hc]at hw
 simp at hw
theorem als{wb objs k:Nat}(hk:k≤11)(hobj:objs≤100000)(h1:AllOk wb objs k):AllOk wb objs (k+1):=by
 intro W P Ys v nodes hn1 hn2 hV hP hF hlen hw
 obtain⟨R,hR⟩:∃ R,Fo.walk objs (k+1) nodes Ys=R:=⟨_,rfl⟩
 rw[hR]
 obtain⟨va,vc,hve⟩:=hV.len
 have hap:=hV.apart hw
 have HV:=hide hV
 have HAP:=hide hap
 have H1:=hide h1
 have HP:=hide hP
 have HF:=hide hF
 have HW:=hide hw
 have HR:=hide hR
 have hwb:=lt_of_block hw
 obtain⟨n,hn⟩:∃ n,Ys.length=n:=⟨_,rfl⟩
 rw[hn]at hve hlen
 have HN:=hide hn
 subst hve
 rw[show 13-(k+1)=12-k by omega]
 obtain⟨dp,hdp⟩:∃ dp,12-k=dp:=⟨_,rfl⟩
 rw[hdp]
 have HDP:=hide hdp
 clear hR hV hap h1 hP hF hw hn hdp
 go_enter Tryz.func92,Tryz.ntmps92
 go_wp2
 go_loopw [11] (fun i wr=>∃(m nd:Nat),m≤n∧i=.int .i64 m∧1≤nd∧nd≤2000∧Hid (Only wb W wr)∧Hid (WkIn wb objs nd wr)∧Hid (Fo.walk objs (k+1) nd (Ys.drop m)=R)) (fun i _=>n-(intOf i).toNat)
 case atStart=>exact⟨0,nodes,Nat.zero_le _,rfl,hn1,hn2,Only.refl _ _,HW,HR⟩
 case round =>
  obtain⟨m,nd,hm,rfl,hd1,hd2,HO,HK,HR2⟩:=hrel
  rcases Nat.eq_or_lt_of_le hm with hm | hm
  ·subst hm
   have HR3:Hid (R=some nd):=by
    unfold Hid
    rw[←HR2.o,List.drop_of_length_le (by rw[HN.o];exact Nat.le_refl _)];rfl
   clear HR2 HR
   go_wp2
   go_ret
   exact .yes HR3.o HO.o HK.o
  ·obtain⟨y,hy⟩:∃ y,Ys[m]?=some y:=⟨_,List.getElem?_eq_getElem (by rw[HN.o];exact hm)⟩
   have hdr:Ys.drop m=y::Ys.drop (m+1):=by
    rw[List.drop_eq_getElem_cons (by rw[HN.o];exact hm)];congr 1
    rw[List.getElem?_eq_getElem (by rw[HN.o];exact hm)]at hy;simpa using hy
   rw[hdr,Fo.walk_cons]at HR2
   obtain⟨g,c,x,hge,_,_,hx,hxc⟩:=HV.o.at hy
   rw[HN.o]at hge
   cases hge
   have hgw:g≠wb:=HAP.o g rfl
   have hmem:y∈Ys:=List.mem_of_getElem? hy
   have hfy:=HF.o y hmem
   obtain⟨k0,k1,k2,k3,ja,jl,jc,ka2,kl,kc2,fa2,fl,fc2,hxf⟩:=VIn.form hx
   have hold:∀{j:Nat} {u:Value},W.cell? ⟨g,j,none⟩=some u→wr.cell? ⟨g,j,none⟩=some u:=fun{j u} h=>by
    rw[World.cell?_of_block (w:=W) (HO.o.block g (World.block_lt_of_cell? W _ h) hgw)];exact h
   have d0:wr.cell? ⟨g,m*7,none⟩=some (.int .i64 k0):=hold (hxc 0 _ (by rw[hxf];rfl))
   have d1:wr.cell? ⟨g,m*7+1,none⟩=some (.int .i64 k1):=hold (hxc 1 _ (by rw[hxf];rfl))
   have d2:wr.cell? ⟨g,m*7+2,none⟩=some (.int .i64 k2):=hold (hxc 2 _ (by rw[hxf];rfl))
   have d3:wr.cell? ⟨g,m*7+3,none⟩=some (.string k3):=hold (hxc 3 _ (by rw[hxf];rfl))
   have d4:wr.cell? ⟨g,m*7+4,none⟩=some (.slice ja jl jc):=hold (hxc 4 _ (by rw[hxf];rfl))
   have d5:wr.cell? ⟨g,m*7+5,none⟩=some (.slice ka2 kl kc2):=hold (hxc 5 _ (by rw[hxf];rfl))
   have d6:wr.cell? ⟨g,m*7+6,none⟩=some (.slice fa2 fl fc2):=hold (hxc 6 _ (by rw[hxf];rfl))
   have bA:Below wr.heap.size wr (wr.alloc (.cells #[.int .i64 k0,.int .i64 k1,.int .i64 k2,.string k3,.slice ja jl jc,.slice ka2 kl kc2,.slice fa2 fl fc2] 67)):=(Below.refl _ _).alloc (Nat.le_refl _) _
   have oA:Only wb W (wr.alloc (.cells #[.int .i64 k0,.int .i64 k1,.int .i64 k2,.string k3,.slice ja jl jc,.slice ka2 kl kc2,.slice fa2 fl fc2] 67)):=HO.o.trans (.of_below bA)
   have HONE:=hide (one_ok (nodes:=nd) hk H1.o (VIn.onlyX hx HP.o oA) HP.o hfy (show WkIn wb objs nd (wr.alloc (.cells #[.int .i64 k0,.int .i64 k1,.int .i64 k2,.string k3,.slice ja jl jc,.slice ka2 kl kc2,.slice fa2 fl fc2] 67))from bla _ HK.o) hd1 hd2 hobj)
   rw[HDP.o]at HONE
   have HR4:Hid ((match(if Fo.oneOk objs dp nd y=true then Fo.walk objs k (nd+(Node.items y).length) (Node.items y)else none)with | none=>none | some n=>Fo.walk objs (k+1) n (Ys.drop (m+1)))=R):=by
    have:=HR2
    unfold Fo.stepW at this
    rw[HDP.o]at this
    exact this
   have HB:Hid (∀ z,(if Fo.oneOk objs dp nd y=true then Fo.walk objs k (nd+(Node.items y).length) (Node.items y)else none)=some z→nd≤z∧z≤2000):=fun z hz=>by
    refine Fo.stepW_bound (objs:=objs) (k:=k) (V:=y) ?_
    unfold Fo.stepW
    rw[HDP.o]
    exact hz
   have HOA:=hide oA
   subst hxf
   clear hxc hold hy hdr hmem hfy bA oA HR2 hx
   generalize (if Fo.oneOk objs dp nd y=true then Fo.walk objs k (nd+(Node.items y).length) (Node.items y)else none)=SW at *
   cases SW with
   |none =>
    have HR3:Hid (R=none):=HR4.o.symm
    clear HR4 HR
    go_wp2_with fail
    refine HONE.o.mono ?_
    rintro e w2 ⟨o2,h2⟩
    simp only[]at h2
    subst h2
    have K2:=hide (HOA.o.trans o2)
    clear o2
    go_wp2
    go_ret
    exact .no HR3.o K2.o
   |some z =>
    have hz:=HB.o z rfl
    simp only[]at HR4
    go_wp2_with fail
    refine HONE.o.mono ?_
    rintro e w2 ⟨o2,rfl,h2⟩
    have K2:=hide (HOA.o.trans o2)
    have HK2:=hide h2
    clear o2 h2 HONE HB d0 d1 d2 d3 d4 d5 d6
    go_wp2
    go_roundw
    case rel=>exact⟨m+1,z,by omega,by first | rfl | (congr 1),by omega,hz.2,K2,HK2,HR4⟩
    case measure=>simp[intOf];omega
theorem az{wb objs:Nat}:AllOk wb objs 0:=by
 intro W P Ys v nodes hn1 hn2 hV hP hF hlen hw
 cases Ys with
 |cons y _=>exact y.elim
 |nil =>
  obtain⟨va,vc,rfl⟩:=hV.len
  have HW:=hide hw
  rw[show Fo.walk objs 0 nodes []=some nodes from rfl]
  clear hV hP hF hlen hw
  show Calls Tryz.prog 92 #[.pointer (some ⟨wb,0,none⟩),.slice va 0 vc,.int .i64 13] W (WRes wb objs (some nodes) W)
  go_enter Tryz.func92,Tryz.ntmps92
  go_wp2
  refine wp_loop_rounds 1 ?_
  rw[rounds_succ]
  go_wp2
  go_ret
  exact .yes rfl (Only.refl _ _) HW.o
theorem ao_{wb objs:Nat}(hobj:objs≤100000):∀(k:Nat),k≤12→AllOk wb objs k
 |0,_=>az
 |k+1,h=>als (by omega) hobj (ao_ hobj k (by omega))
theorem is_ok{P:Nat→Prop}{Vs:List (VT 12)}{root:Int}{ov:Value}(h:Vals P 12 0 Vs w ov)(hF:∀ y∈Vs,Fewf y)(hl:Vs.length≤200000) :
  Calls Tryz.prog 61 #[.agg #[ov,.int .i64 root]] w fun e w'=>e=.returned (.bool (Fo.isDoc Vs root))∧Below w.heap.size w w':=by
 have h2:Vals (fun g=>P g∧g<w.heap.size) 12 0 Vs w ov:=h.mono (fun g h1 h2=>⟨h1,h2⟩)
 have HV:=hide h2
 obtain⟨oa,oc,rfl⟩:=h.len
 obtain⟨n,hn⟩:∃ n,Vs.length=n:=⟨_,rfl⟩
 rw[hn]at hl HV
 obtain⟨R,hR⟩:∃ R,Fo.isDoc Vs root=R:=⟨_,rfl⟩
 rw[hR,hn]
 unfold Fo.isDoc at hR
 rw[hn]at hR
 have HN:=hide hn
 have HF:=hide hF
 have B1:Hid (Below w.heap.size w (w.alloc (.cells #[.slice oa n oc,.int .i64 root] 31))):=(Below.refl _ _).alloc (Nat.le_refl _) _
 clear h h2 hF hn
 by_cases hn1:1≤n∧n≤100
 ·rw[decide_eq_true hn1,Bool.true_and]at hR
  have W1:=hide (fun W=>wiy (n:Int) 1 100 W (by omega) (by omega))
  by_cases hr:1≤root∧root≤(n:Int)
  ·rw[decide_eq_true hr,Bool.true_and]at hR
   obtain⟨r,rfl⟩:∃ r:Nat,root=(r:Int)+1:=⟨(root-1).toNat,by omega⟩
   rw[show((r:Int)+1-1).toNat=r by omega]at hR
   have hrn:r<n:=by omega
   have W2:=hide (fun W=>wiy ((r:Int)+1) 1 (n:Int) W (by omega) (by omega))
   obtain⟨y,hy⟩:∃ y,Vs[r]?=some y:=⟨_,List.getElem?_eq_getElem (by rw[HN.o];exact hrn)⟩
   rw[hy]at hR
   obtain⟨g,c,x,hge,_,_,hx,hxc⟩:=HV.o.at hy
   rw[HN.o]at hge
   cases hge
   obtain⟨pp,ia,il,ic,ka,kl,kc,fa,fl,fc,rfl⟩:=VIn.form2 hx
   have dk:(w.alloc (.cells #[.slice (some ⟨g,0,none⟩) n oc,.int .i64 ((r:Int)+1)] 31)).cell? ⟨g,r*7,none⟩=some (.int .i64 (kO y:Int)):=by
    have:=hxc 0 _ rfl
    rw[Nat.add_zero]at this
    rw[World.cell?_alloc_lt _ _ _ (World.block_lt_of_cell? w _ this)];exact this
   have hsub:IntKind.i64.wrap ((r:Int)+1-1)=(r:Int):=by rw[IntKind.wrap_i64];omega
   have hky:(some y).map (fun V:VT 12=>Node.kind (α:=VT 11) V)=some (kO y):=rfl
   rw[hky]at hR
   clear hx hxc hy hr hky
   by_cases h7:kO y=7
   ·rw[h7]at hR dk
    rw[decide_eq_true rfl,Bool.true_and]at hR
    have hw2:WkIn (w.heap.size+1) n n ((w.alloc (.cells #[.slice (some ⟨g,0,none⟩) n oc,.int .i64 ((r:Int)+1)] 31)).alloc (.cells #[.int .i64 (n:Int),.int .i64 (n:Int)] 118)):=by
     have:=bln (w.alloc (.cells #[.slice (some ⟨g,0,none⟩) n oc,.int .i64 ((r:Int)+1)] 31)) (.cells #[.int .i64 (n:Int),.int .i64 (n:Int)] 118)
     rw[World.size_alloc]at this
     exact this
    have b2:Below w.heap.size w ((w.alloc (.cells #[.slice (some ⟨g,0,none⟩) n oc,.int .i64 ((r:Int)+1)] 31)).alloc (.cells #[.int .i64 (n:Int),.int .i64 (n:Int)] 118)):=B1.o.alloc (by simp) _
    have hA:=ao_ (wb:=w.heap.size+1) (objs:=n) (by omega) 12 (Nat.le_refl _) _ (fun g=>P g∧g<w.heap.size) Vs (.slice (some ⟨g,0,none⟩) n oc) n (by omega) (by omega) (HV.o.keep b2) (fun g hg=>by omega) HF.o (by rw[HN.o];omega) hw2
    have HA:=hide hA
    have B2:=hide b2
    clear hA b2 hw2
    rw[show((13-12:Nat):Int)=1 from rfl]at HA
    go_enter Tryz.func61,Tryz.ntmps61
    go_wp2_with fail
    refine(W1.o _).mono ?_
    rintro e w3 ⟨rfl,hw⟩
    have hw:=hw.symm
    subst hw
    go_wp2_with fail
    refine(W2.o _).mono ?_
    rintro e w3 ⟨rfl,hw⟩
    have hw:=hw.symm
    subst hw
    go_wp2_with fail
    refine HA.o.mono ?_
    rintro e w4 ⟨o4,h4⟩
    have b4:Hid (Below w.heap.size w w4):=⟨o4.os.trans B2.o.os,o4.tape.trans B2.o.tape,o4.output.trans B2.o.output,Nat.le_trans B2.o.size o4.size,fun g hg=>(o4.block g (Nat.lt_of_lt_of_le hg B2.o.size) (by omega)).trans (B2.o.block g hg)⟩
    cases hW:Fo.walk n 12 n Vs with
    |none =>
     rw[hW]at h4 hR
     simp only[]at h4
     subst h4
     have HR:Hid (R=false):=hR.symm
     clear o4 hR
     go_wp2
     go_ret
     exact⟨by rw[HR.o];rfl,b4.o⟩
    |some z =>
     rw[hW]at h4 hR
     obtain⟨rfl,_⟩:=h4
     have HR:Hid (R=true):=hR.symm
     clear o4 hR
     go_wp2
     go_ret
     exact⟨by rw[HR.o];rfl,b4.o⟩
   ·have HR:Hid (R=false):=by unfold Hid;rw[←hR,decide_eq_false (by simpa using h7)];rfl
    have t7:((kO y:Int)==7)=false:=by simp;omega
    have t7':((kO y:Int) != 7)=true:=by simp;omega
    generalize (kO y:Int)=ky at *
    clear hR h7
    go_enter Tryz.func61,Tryz.ntmps61
    go_wp2_with fail
    refine(W1.o _).mono ?_
    rintro e w3 ⟨rfl,hw⟩
    have hw:=hw.symm
    subst hw
    go_wp2_with fail
    refine(W2.o _).mono ?_
    rintro e w3 ⟨rfl,hw⟩
    have hw:=hw.symm
    subst hw
    go_wp2
    go_ret
    exact⟨by rw[HR.o];rfl,B1.o⟩
  ·have HR:Hid (R=false):=by unfold Hid;rw[←hR,decide_eq_false hr];rfl
   have W2:=hide (fun W=>win root 1 (n:Int) W (by omega))
   clear hR hr
   go_enter Tryz.func61,Tryz.ntmps61
   go_wp2_with fail
   refine(W1.o _).mono ?_
   rintro e w3 ⟨rfl,hw⟩
   have hw:=hw.symm
   subst hw
   go_wp2_with fail
   refine(W2.o _).mono ?_
   rintro e w3 ⟨rfl,hw⟩
   have hw:=hw.symm
   subst hw
   go_wp2
   go_ret
   exact⟨by rw[HR.o];rfl,B1.o⟩
 ·have HR:Hid (R=false):=by unfold Hid;rw[←hR,decide_eq_false hn1];rfl
  have W1:=hide (fun W=>win (n:Int) 1 100 W (by omega))
  clear hR hn1
  go_enter Tryz.func61,Tryz.ntmps61
  go_wp2_with fail
  refine(W1.o _).mono ?_
  rintro e w3 ⟨rfl,hw⟩
  have hw:=hw.symm
  subst hw
  go_wp2
  go_ret
  exact⟨by rw[HR.o];rfl,B1.o⟩
end
section
variable{w w':World}
def PackIn(w:World)(B:Nat)(l:List Nat)(p:Value):Prop:=(l=[]∧p=.slice none 0 0)∨Taken w B l p
theorem PackIn.keep{B:Nat}{l:List Nat}{p:Value}(h:PackIn w B l p)(hb:∀ g,g<B→w'.heap[g]?=w.heap[g]?):PackIn w' B l p:=by
 rcases h with h | ⟨bd,o,c,e,h1,h2,h3,h4⟩
 ·exact Or.inl h
 ·exact Or.inr ⟨bd,o,c,e,h1,h2,h3,fun i hi=>ces (h4 i hi) (hb bd h1)⟩
structure Fi(w0:World)(B bs:Nat)(ao:Option Addr)(cap:Nat)(data:List Nat)(w:World)(q:List Nat)(ov pv lv:Value)(vs:List Value)(Vs:List (VT 12))(ps:List Value)(Ps:List (List Nat))(pls:List Nat):Prop where
 sc:Sc B bs ao cap data ov pv lv w q
 only:Only bs w0 w
 lt:bs<w0.heap.size
 oo:w.ownsRow w0.heap.size 67 7 ov vs.length (vs.flatMap cellsOf)
 op:w.ownsRow w0.heap.size 23 1 pv ps.length ps
 ol:w.ownsRow w0.heap.size 3 1 lv pls.length (pls.map fun n:Nat=>.int .i64 (n:Int))
 len:vs.length=Vs.length
 ch:∀(i:Nat) (x:Value) (y:VT 12),vs[i]?=some x→Vs[i]?=some y→VIn (fun g=>w0.heap.size≤g∧ov.ownBlock≠some g∧pv.ownBlock≠some g∧lv.ownBlock≠some g) 12 w x y
 plen:ps.length=Ps.length
 pk:∀(i:Nat) (p:Value) (l:List Nat),ps[i]?=some p→Ps[i]?=some l→PackIn w B l p
variable{w0:World}{B bs cap:Nat}{ao:Option Addr}{data q:List Nat}{ov pv lv:Value}{vs:List Value}{Vs:List (VT 12)}{ps:List Value}{Ps:List (List Nat)}{pls:List Nat}
theorem Fi.step(h:Fi w0 B bs ao cap data w q ov pv lv vs Vs ps Ps pls){q':List Nat}(hs:Sc B bs ao cap data ov pv lv w' q')(ko:Only bs w w'):Fi w0 B bs ao cap data w' q' ov pv lv vs Vs ps Ps pls:=by
 have hlt:=h.lt
 have hBb:=h.sc.hb
 have hsz:=h.only.size
 refine⟨hs,h.only.trans ko,h.lt,owo h.oo ko hlt,owo h.op ko hlt,owo h.ol ko hlt,h.len,fun i x y hx hy=>?_,h.plen,fun i p l hp hl=>?_⟩
 ·exact VIn.keep 12 (h.ch i x y hx hy) (fun g hg hg2=>ko.block g hg2 (by omega))
 ·exact(h.pk i p l hp hl).keep (fun g hg=>ko.block g (by omega) (by omega))
theorem Fi.below(h:Fi w0 B bs ao cap data w q ov pv lv vs Vs ps Ps pls)(b:Below w.heap.size w w'):Fi w0 B bs ao cap data w' q ov pv lv vs Vs ps Ps pls:=
 h.step (h.sc.other b) (.of_below b)
theorem Fi.drew(h:Fi w0 B bs ao cap data w q ov pv lv vs Vs ps Ps pls):Fi w0 B bs ao cap data w.drew q ov pv lv vs Vs ps Ps pls:=h.below (Below.refl _ _).drew
theorem Fi.alloc(h:Fi w0 B bs ao cap data w q ov pv lv vs Vs ps Ps pls)(o:Obj):Fi w0 B bs ao cap data (w.alloc o) q ov pv lv vs Vs ps Ps pls:=h.below ((Below.refl _ _).alloc (Nat.le_refl _) o)
theorem owa{w:World}{b b' e e' size size' n n':Nat}{v v':Value}{xs xs':List Value}(h:w.ownsRow b e size v n xs)(h':w.ownsRow b' e' size' v' n' xs')(hne:e≠e'):v.ownBlock=none∨v.ownBlock≠v'.ownBlock:=by
 cases hk:v.ownBlock with
 |none=>exact Or.inl rfl
 |some g=>exact Or.inr (fun e=>oa_ h h' hne g hk e.symm)
theorem Fi.place(h:Fi w0 B bs ao cap data w q ov pv lv vs Vs ps Ps pls){p:Nat}{lv':Value}
  (hown:w'.ownsRow w0.heap.size 3 1 lv' (pls.length+1) ((pls.map fun n:Nat=>.int .i64 (n:Int))++[.int .i64 (p:Int)])) (hg:w.grownBy w' lv.ownBlock) (hw:∀ g,lv'.ownBlock=some g→lv.ownBlock=some g∨w.heap.size≤g) :
  Fi w0 B bs ao cap data (w'.setCell ⟨bs,4,none⟩ lv') q ov pv lv' vs Vs ps Ps (pls++[p]):=by
 have hlt:=h.lt
 have hsz:=h.only.size
 have hBb:=h.sc.hb
 have hsc:=lt_of_block h.sc.blk
 have hiv:∀ g,lv.ownBlock=some g→w0.heap.size≤g∧g<w.heap.size:=h.ol.lt
 have hoth:∀ g,g<w.heap.size→lv.ownBlock≠some g→g≠bs→(w'.setCell ⟨bs,4,none⟩ lv').heap[g]?=w.heap[g]?:=fun g h1 h2 h3=>by
  rw[bsCn _ h3,hg.block g h1 (fun e=>h2 e.symm)]
 have hlow:∀ g,g<w0.heap.size→g≠bs→(w'.setCell ⟨bs,4,none⟩ lv').heap[g]?=w.heap[g]?:=fun g h1 h2=>hoth g (by omega) (fun e=>by have:=hiv g e;omega) h2
 have hvb':w'.heap[bs]?=some (.cells #[.slice ao data.length cap,.int .i64 (data.length-q.length:Nat),ov,pv,lv] 131 (0,0)):=by
  rw[hg.block _ hsc (fun e=>by have:=hiv _ e.symm;omega)];exact h.sc.blk
 refine⟨⟨h.sc.hb,by rw[bsC _ hvb'];rfl,h.sc.dat.other (fun g hg=>hlow g (by omega) (by omega)),h.sc.byt,h.sc.len,h.sc.lc,h.sc.le,h.sc.suf,h.sc.ad⟩,?_,h.lt,?_,?_,?_,h.len,?_,?_,?_⟩
 ·exact⟨hg.os.trans h.only.os,hg.tape.trans h.only.tape,hg.output.trans h.only.output,by have:=hg.size;simp[World.setCell];omega,fun g h1 h2=>(hlow g h1 h2).trans (h.only.block g h1 h2)⟩
 ·have:=h.oo.kept hg (owa h.oo h.ol (by decide))
  exact ownsRow_setCell_below this (by show bs<w0.heap.size;omega) lv'
 ·have:=h.op.kept hg (owa h.op h.ol (by decide))
  exact ownsRow_setCell_below this (by show bs<w0.heap.size;omega) lv'
 ·have:=ownsRow_setCell_below hown (a:=⟨bs,4,none⟩) (by show bs<w0.heap.size;omega) lv'
  simpa using this
 ·intro i x y hx hy
  have old:VIn (fun g=>(w0.heap.size≤g∧ov.ownBlock≠some g∧pv.ownBlock≠some g∧lv.ownBlock≠some g)∧lv'.ownBlock≠some g) 12 w x y:=by
   refine VIn.mono 12 (h.ch i x y hx hy) (fun g h1 h2=>⟨h1,fun e=>?_⟩)
   rcases hw g e with c2 | c2
   ·exact h1.2.2.2 c2
   ·omega
  exact VIn.mono 12 (VIn.keep 12 old (fun g hg hg2=>hoth g hg2 hg.1.2.2.2 (by omega))) (fun g hg _=>⟨hg.1.1,hg.1.2.1,hg.1.2.2.1,hg.2⟩)
 ·exact h.plen
 ·exact fun i p l hp hl=>(h.pk i p l hp hl).keep (fun g hg=>hlow g (by omega) (by omega))
theorem Fi.pack(h:Fi w0 B bs ao cap data w q ov pv lv vs Vs ps Ps pls){p:Value}{l:List Nat}{pv':Value}(hp:PackIn w B l p)
  (hown:w'.ownsRow w0.heap.size 23 1 pv' (ps.length+1) (ps++[p])) (hg:w.grownBy w' pv.ownBlock) (hw:∀ g,pv'.ownBlock=some g→pv.ownBlock=some g∨w.heap.size≤g) :
  Fi w0 B bs ao cap data (w'.setCell ⟨bs,3,none⟩ pv') q ov pv' lv vs Vs (ps++[p]) (Ps++[l]) pls:=by
 have hlt:=h.lt
 have hsz:=h.only.size
 have hBb:=h.sc.hb
 have hsc:=lt_of_block h.sc.blk
 have hiv:∀ g,pv.ownBlock=some g→w0.heap.size≤g∧g<w.heap.size:=h.op.lt
 have hoth:∀ g,g<w.heap.size→pv.ownBlock≠some g→g≠bs→(w'.setCell ⟨bs,3,none⟩ pv').heap[g]?=w.heap[g]?:=fun g h1 h2 h3=>by
  rw[bsCn _ h3,hg.block g h1 (fun e=>h2 e.symm)]
 have hlow:∀ g,g<w0.heap.size→g≠bs→(w'.setCell ⟨bs,3,none⟩ pv').heap[g]?=w.heap[g]?:=fun g h1 h2=>hoth g (by omega) (fun e=>by have:=hiv g e;omega) h2
 have hvb':w'.heap[bs]?=some (.cells #[.slice ao data.length cap,.int .i64 (data.length-q.length:Nat),ov,pv,lv] 131 (0,0)):=by
  rw[hg.block _ hsc (fun e=>by have:=hiv _ e.symm;omega)];exact h.sc.blk
 refine⟨⟨h.sc.hb,by rw[bsC _ hvb'];rfl,h.sc.dat.other (fun g hg=>hlow g (by omega) (by omega)),h.sc.byt,h.sc.len,h.sc.lc,h.sc.le,h.sc.suf,h.sc.ad⟩,?_,h.lt,?_,?_,?_,h.len,?_,?_,?_⟩
 ·exact⟨hg.os.trans h.only.os,hg.tape.trans h.only.tape,hg.output.trans h.only.output,by have:=hg.size;simp[World.setCell];omega,fun g h1 h2=>(hlow g h1 h2).trans (h.only.block g h1 h2)⟩
 ·have:=h.oo.kept hg (owa h.oo h.op (by decide))
  exact ownsRow_setCell_below this (by show bs<w0.heap.size;omega) pv'
 ·have:=ownsRow_setCell_below hown (a:=⟨bs,3,none⟩) (by show bs<w0.heap.size;omega) pv'
  simpa using this
 ·have:=h.ol.kept hg (owa h.ol h.op (by decide))
  exact ownsRow_setCell_below this (by show bs<w0.heap.size;omega) pv'
 ·intro i x y hx hy
  have old:VIn (fun g=>(w0.heap.size≤g∧ov.ownBlock≠some g∧pv.ownBlock≠some g∧lv.ownBlock≠some g)∧pv'.ownBlock≠some g) 12 w x y:=by
   refine VIn.mono 12 (h.ch i x y hx hy) (fun g h1 h2=>⟨h1,fun e=>?_⟩)
   rcases hw g e with c2 | c2
   ·exact h1.2.2.1 c2
   ·omega
  exact VIn.mono 12 (VIn.keep 12 old (fun g hg hg2=>hoth g hg2 hg.1.2.2.1 (by omega))) (fun g hg _=>⟨hg.1.1,hg.1.2.1,hg.2,hg.1.2.2.2⟩)
 ·rw[List.length_append,List.length_append,h.plen];rfl
 ·intro i p2 l2 hp2 hl2
  rcases Nat.lt_or_ge i ps.length with c | c
  ·rw[List.getElem?_append_left c]at hp2
   rw[List.getElem?_append_left (by rw[←h.plen];exact c)]at hl2
   exact(h.pk i p2 l2 hp2 hl2).keep (fun g hg=>hlow g (by omega) (by omega))
  ·rw[List.getElem?_append_right c]at hp2
   rw[List.getElem?_append_right (by rw[←h.plen];exact c)]at hl2
   rw[←h.plen]at hl2
   obtain⟨rfl,rfl⟩:p=p2∧l=l2:=by
    match hj:i-ps.length,hp2,hl2 with
    |0,hx2,hy2=>exact⟨by simpa using hx2,by simpa using hy2⟩
    |j+1,hx2,hy2=>simp at hx2
   exact hp.keep (fun g hg=>hlow g (by omega) (by omega))
theorem rl{base g n c:Nat}{xs:List Value}{a0 a1 a2 a3 a4 a5 a6:Value}{l:List Value}(h:w.ownsRow base 67 7 (.slice (some ⟨g,0,none⟩) (n+1) c) (n+1) (xs++l))(hx:xs.length=n*7)(hl:l.length=7) :
  (((((((w.setCell ⟨g,n*7,none⟩ a0).setCell ⟨g,n*7+1,none⟩ a1).setCell ⟨g,n*7+2,none⟩ a2).setCell ⟨g,n*7+3,none⟩ a3).setCell ⟨g,n*7+4,none⟩ a4).setCell ⟨g,n*7+5,none⟩ a5).setCell ⟨g,n*7+6,none⟩ a6).ownsRow base 67 7 (.slice (some ⟨g,0,none⟩) (n+1) c) (n+1) (xs++[a0,a1,a2,a3,a4,a5,a6]):=by
 have h0:=(h.stored (n*7) a0).1
 have h1:=(h0.stored (n*7+1) a1).1
 have h2:=(h1.stored (n*7+2) a2).1
 have h3:=(h2.stored (n*7+3) a3).1
 have h4:=(h3.stored (n*7+4) a4).1
 have h5:=(h4.stored (n*7+5) a5).1
 have h6:=(h5.stored (n*7+6) a6).1
 have e:((((((((xs++l).set (n*7) a0).set (n*7+1) a1).set (n*7+2) a2).set (n*7+3) a3).set (n*7+4) a4).set (n*7+5) a5).set (n*7+6) a6)=xs++[a0,a1,a2,a3,a4,a5,a6]:=by
  match l,hl with
  | [b0,b1,b2,b3,b4,b5,b6],_ =>
   rw[←hx]
   simp[List.set_append]
 rw[e]at h6
 exact h6
theorem Fi.obj(h:Fi w0 B bs ao cap data w q ov pv lv vs Vs ps Ps pls){x:Value}{y:VT 12}{ov':Value}{w6 W:World}
  (hx:VIn (fun g=>w0.heap.size≤g∧ov.ownBlock≠some g∧pv.ownBlock≠some g∧lv.ownBlock≠some g) 12 w x y)
  (hg:w.grownBy w6 ov.ownBlock) (hw:∀ g,ov'.ownBlock=some g→ov.ownBlock=some g∨w.heap.size≤g) (hlow6:∀ g,ov'.ownBlock=some g→w0.heap.size≤g)
  (hos:W.os=w6.os) (htp:W.tape=w6.tape) (hou:W.output=w6.output) (hsz6:W.heap.size=w6.heap.size) (ho6:∀ g,g≠bs→ov'.ownBlock≠some g→W.heap[g]?=w6.heap[g]?)
  (hbs:W.heap[bs]?=some (.cells #[.slice ao data.length cap,.int .i64 (data.length-q.length:Nat),ov',pv,lv] 131 (0,0)))
  (hrow:W.ownsRow w0.heap.size 67 7 ov' (vs.length+1) (vs.flatMap cellsOf++cellsOf x)) :
  Fi w0 B bs ao cap data W q ov' pv lv (vs++[x]) (Vs++[y]) ps Ps pls:=by
 have hlt:=h.lt
 have hsz:=h.only.size
 have hBb:=h.sc.hb
 have hsc:=lt_of_block h.sc.blk
 have hiv:∀ g,ov.ownBlock=some g→w0.heap.size≤g∧g<w.heap.size:=h.oo.lt
 have hoth:∀ g,g<w.heap.size→ov.ownBlock≠some g→g≠bs→W.heap[g]?=w.heap[g]?:=fun g h1 h2 h3=>by
  rw[ho6 g h3 (fun e=>by rcases hw g e with c | c;exact h2 c;omega),hg.block g h1 (fun e=>h2 e.symm)]
 have hlow:∀ g,g<w0.heap.size→g≠bs→W.heap[g]?=w.heap[g]?:=fun g h1 h2=>hoth g (by omega) (fun e=>by have:=hiv g e;omega) h2
 have rows:∀{e size n:Nat} {v:Value} {xs:List Value},w.ownsRow w0.heap.size e size v n xs→e ≠ 67→W.ownsRow w0.heap.size e size v n xs:=fun{e size n v xs} ho hne=>by
  have hap:=owa ho h.oo hne
  obtain⟨h1,h2⟩:=ho
  refine⟨h1,?_⟩
  rcases h2 with h2 | ⟨g,c,cur,e1,e2,hh,hc⟩
  ·exact Or.inl h2
  ·have hb:v.ownBlock=some g:=by rw[e1];rfl
   refine Or.inr ⟨g,c,cur,e1,e2,?_,hc⟩
   rw[hoth g (lt_of_block hh) (fun e=>by rw[hb]at hap;rcases hap with hap | hap;cases hap;exact hap e.symm) (by omega)]
   exact hh
 refine⟨⟨h.sc.hb,hbs,h.sc.dat.other (fun g hg=>hlow g (by omega) (by omega)),h.sc.byt,h.sc.len,h.sc.lc,h.sc.le,h.sc.suf,h.sc.ad⟩,?_,h.lt,?_,rows h.op (by decide),rows h.ol (by decide),by rw[List.length_append,List.length_append,h.len];rfl,?_,h.plen,fun i p l hp hl=>(h.pk i p l hp hl).keep (fun g hg=>hlow g (by omega) (by omega))⟩
 ·exact⟨hos.trans (hg.os.trans h.only.os),htp.trans (hg.tape.trans h.only.tape),hou.trans (hg.output.trans h.only.output),by have:=hg.size;omega,fun g h1 h2=>(hlow g h1 h2).trans (h.only.block g h1 h2)⟩
 ·rw[List.length_append,List.flatMap_append]
  simpa using hrow
 ·intro i x2 y2 hx2 hy2
  have old:VIn (fun g=>(w0.heap.size≤g∧ov.ownBlock≠some g∧pv.ownBlock≠some g∧lv.ownBlock≠some g)∧ov'.ownBlock≠some g) 12 w x2 y2:=by
   have base:VIn (fun g=>w0.heap.size≤g∧ov.ownBlock≠some g∧pv.ownBlock≠some g∧lv.ownBlock≠some g) 12 w x2 y2:=by
    rcases Nat.lt_or_ge i vs.length with c | c
    ·rw[List.getElem?_append_left c]at hx2
     rw[List.getElem?_append_left (by rw[←h.len];exact c)]at hy2
     exact h.ch i x2 y2 hx2 hy2
    ·rw[List.getElem?_append_right c]at hx2
     rw[List.getElem?_append_right (by rw[←h.len];exact c)]at hy2
     rw[←h.len]at hy2
     obtain⟨rfl,rfl⟩:x=x2∧y=y2:=by
      match hj:i-vs.length,hx2,hy2 with
      |0,hx2,hy2=>exact⟨by simpa using hx2,by simpa using hy2⟩
      |j+1,hx2,hy2=>simp at hx2
     exact hx
   refine VIn.mono 12 base (fun g h1 h2=>⟨h1,fun e=>?_⟩)
   rcases hw g e with c2 | c2
   ·exact h1.2.1 c2
   ·omega
  exact VIn.mono 12 (VIn.keep 12 old (fun g hg hg2=>hoth g hg2 hg.1.2.1 (by omega))) (fun g hg _=>⟨hg.1.1,hg.2,hg.1.2.2.1,hg.1.2.2.2⟩)
end
end Go.Proofs.YtgkljcmjnphpeaaGreatDoor
namespace Go
section
section
variable{P:Program}{ops:Array Oper}{Q:Exit→Act→World→Prop}{md:Region.Mode}{S:Array Bool→World→Prop}
theorem wpATt{i j:Nat}{o o':Oper}{fuel:Nat}{L:Array Bool}{a:Act}{w:World}(hr:Region.ready md ops L=[i,j])(ho:ops[i]?=some o)(ho':ops[j]?=some o')(hD:Disc md ops L)
  (h:∀ K':Act→World→Prop,Shut (∀ a w,S (L.setIfInBounds i true) w→(Disc md ops (L.setIfInBounds i true)→S (L.setIfInBounds i true) w→wAT P md ops Q S fuel (L.setIfInBounds i true) a w)→K' a w)→if Region.wanted o (yielded ops a.tmps)=true then Oper.wp P o a w K' Q else K' (a.put o.dst undef) w)
  (h':∀ K':Act→World→Prop,Shut (∀ a w,S (L.setIfInBounds j true) w→(Disc md ops (L.setIfInBounds j true)→S (L.setIfInBounds j true) w→wAT P md ops Q S fuel (L.setIfInBounds j true) a w)→K' a w)→if Region.wanted o' (yielded ops a.tmps)=true then Oper.wp P o' a w K' Q else K' (a.put o'.dst undef) w) :
  wAT P md ops Q S (fuel+1) L a w:=by
 refine⟨fun h0=>(by rw[hr]at h0;cases h0),fun k hk=>?_⟩
 rw[hr]at hk
 have hD':=hD.set (i:=k) (by rw[hr];exact hk)
 rcases List.mem_cons.1 hk with rfl | hk
 ·exact wpOp_step ho (fun K' hK=>h K' (fun a w hS hW=>hK a w ⟨hS,hW hD' hS⟩))
 ·obtain rfl:=List.mem_singleton.1 hk
  exact wpOp_step ho' (fun K' hK=>h' K' (fun a w hS hW=>hK a w ⟨hS,hW hD' hS⟩))
end
end
end Go
namespace Go.Proofs.YtgkljcmjnphpeaaGreatDoor
open Go.RowKit
theorem stNs(a:List Nat):(strN a).size=a.length:=by unfold strN;simp[ByteArray.size]
end Go.Proofs.YtgkljcmjnphpeaaGreatDoor
