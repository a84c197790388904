import Derived.Test.YtgkljcmjnphpeaaGreatDoorK14
set_option linter.unusedVariables false
set_option linter.unusedSimpArgs false
set_option maxHeartbeats 2000000
set_option maxRecDepth 100000
namespace Go.Proofs.YtgkljcmjnphpeaaGreatDoor
open Go.RowKit
section
variable{w w':World}
namespace Fo
def ownKey(s:ByteArray):Bool:=decide (s={ data:=#[76,101,110,103,116,104] })||decide (s={ data:=#[70,105,108,116,101,114] })
def keepZ{β:Type}(z:List (List Nat × β)):List (List Nat × β):=z.filter fun x => !ownKey (strN x.1)
def streamOf{k:Nat}(V:Node (VT k)):Option (Node (VT k)):=(filtersOf V).map fun fs=>⟨8,0,0,[],(keepZ (V.keys.zip V.items)).map Prod.snd,(keepZ (V.keys.zip V.items)).map Prod.fst,fs⟩
theorem keepZ_succ{β:Type}(z:List (List Nat × β))(i:Nat)(k:List Nat)(x:β)(h:z[i]?=some (k,x)) :
  keepZ (z.take (i+1))=keepZ (z.take i)++(if ownKey (strN k)=true then[]else[(k,x)]):=by
 unfold keepZ
 rw[List.take_add_one,h,List.filter_append]
 congr 1
 by_cases hk:ownKey (strN k)=true
 ·simp[hk]
 ·simp[hk]
theorem keepZ_len{β:Type}(z:List (List Nat × β)):(keepZ z).length≤z.length:=List.length_filter_le _ _
theorem keep_both{β γ:Type}{R:β→γ→Prop}:∀(ks:List (List Nat)) (l:List β) (m:List γ),l.length=m.length→(∀(i:Nat) (x:β) (y:γ),l[i]?=some x→m[i]?=some y→R x y) →
  (keepZ (ks.zip l)).map Prod.fst=(keepZ (ks.zip m)).map Prod.fst∧(keepZ (ks.zip l)).length=(keepZ (ks.zip m)).length∧∀(i:Nat) (x:β) (y:γ),((keepZ (ks.zip l)).map Prod.snd)[i]?=some x→((keepZ (ks.zip m)).map Prod.snd)[i]?=some y→R x y
 | [],l,m,_,_=>⟨rfl,rfl,fun i x y h=>by simp[keepZ]at h⟩
 |k::ks,[],[],_,_=>⟨rfl,rfl,fun i x y h=>by simp[keepZ]at h⟩
 |k::ks,[],y::m,h,_=>by cases h
 |k::ks,x::l,[],h,_=>by cases h
 |k::ks,x::l,y::m,h,hr=>by
  have ih:=keep_both (R:=R) ks l m (by simpa using h) (fun i a b ha hb=>hr (i+1) a b (by simpa using ha) (by simpa using hb))
  have e1:∀{δ:Type} (a:δ) (r:List δ),keepZ ((k::ks).zip (a::r))=if ownKey (strN k)=true then keepZ (ks.zip r)else(k,a)::keepZ (ks.zip r):=fun a r=>by
   unfold keepZ
   rw[List.zip_cons_cons,List.filter_cons]
   by_cases hk:ownKey (strN k)=true<;>simp[hk]
  rw[e1,e1]
  by_cases hk:ownKey (strN k)=true
  ·rw[if_pos hk,if_pos hk];exact ih
  ·rw[if_neg hk,if_neg hk]
   refine⟨by rw[List.map_cons,List.map_cons,ih.1],by simp[ih.2.1],fun i a b ha hb=>?_⟩
   cases i with
   |zero =>
    simp at ha hb
    subst ha;subst hb
    exact hr 0 _ _ rfl rfl
   |succ i=>exact ih.2.2 i a b (by simpa using ha) (by simpa using hb)
end Fo
def OptRes(P:Nat→Prop)(k:Nat)(o:Option (VT k))(w:World)(e:Ending)(w':World):Prop:=
 Below w.heap.size w w'∧match o with
  |some V=>∃ v,e=.returned v∧VIn P k w' v V
  |none=>e=gU 4
theorem OptRes.none_{P:Nat→Prop}{k:Nat}{o:Option (VT k)}(b:Below w.heap.size w w')(h:o=none):OptRes P k o w (gU 4) w':=by subst h;exact⟨b,rfl⟩
theorem OptRes.some_{P:Nat→Prop}{k:Nat}{o:Option (VT k)}{V:VT k}{v:Value}(b:Below w.heap.size w w')(h:o=some V)(hx:VIn P k w' v V):OptRes P k o w (.returned v) w':=by subst h;exact⟨b,v,rfl,hx⟩
structure St(w0:World)(fv:Value)(w:World)(iv:Value)(vs:List Value)(kv:Value)(ks:List (List Nat)):Prop where
 below:Below w0.heap.size w0 w
 vb:w.heap[w0.heap.size]?=some (.cells #[.int .i64 8,.int .i64 0,.int .i64 0,.string { data:=#[] },iv,kv,fv] 67 (0,0))
 own:w.ownsRow (w0.heap.size+1) 67 7 iv vs.length (vs.flatMap cellsOf)
 ownk:w.ownsRow (w0.heap.size+1) 9 1 kv ks.length (ks.map fun s=>.string (strN s))
variable{w0:World}{fv iv kv:Value}{vs:List Value}{ks:List (List Nat)}
theorem St.step(h:St w0 fv w iv vs kv ks)(b:Below w.heap.size w w'):St w0 fv w' iv vs kv ks:=
 ⟨h.below.trans (b.mono h.below.size),by rw[b.block _ (lt_of_block h.vb)];exact h.vb,obW h.own b,obW h.ownk b⟩
theorem St.alloc(h:St w0 fv w iv vs kv ks)(o:Obj):St w0 fv (w.alloc o) iv vs kv ks:=h.step ((Below.refl _ _).alloc (Nat.le_refl _) o)
theorem St.drew(h:St w0 fv w iv vs kv ks):St w0 fv w.drew iv vs kv ks:=h.step (Below.refl _ _).drew
theorem St.key(h:St w0 fv w iv vs kv ks){s:List Nat}{kv':Value}
  (hown:w'.ownsRow (w0.heap.size+1) 9 1 kv' (ks.length+1) ((ks.map fun s=>.string (strN s))++[.string (strN s)])) (hg:w.grownBy w' kv.ownBlock) :
  St w0 fv (w'.setCell ⟨w0.heap.size,5,none⟩ kv') iv vs kv' (ks++[s]):=by
 have hvb:=lt_of_block h.vb
 have hkv:∀ g,kv.ownBlock=some g→w0.heap.size+1≤g∧g<w.heap.size:=h.ownk.lt
 have hvb':w'.heap[w0.heap.size]?=some (.cells #[.int .i64 8,.int .i64 0,.int .i64 0,.string { data:=#[] },iv,kv,fv] 67 (0,0)):=by
  rw[hg.block _ hvb (fun e=>by have:=hkv _ e.symm;omega)];exact h.vb
 refine⟨⟨hg.os.trans h.below.os,hg.tape.trans h.below.tape,hg.output.trans h.below.output,by have:=hg.size;have:=h.below.size;simp[World.setCell];omega,fun g h1=>?_⟩,?_,?_,?_⟩
 ·rw[bsCn _ (by show g≠w0.heap.size;omega),hg.block g (by have:=h.below.size;omega) (fun e=>by have:=hkv _ e.symm;omega)]
  exact h.below.block g h1
 ·rw[bsC _ hvb'];rfl
 ·have:=h.own.kept hg (by
   cases hk:iv.ownBlock with
   |none=>exact Or.inl rfl
   |some g =>
    refine Or.inr (fun e=>?_)
    exact oa_ h.own h.ownk (by decide) g hk e.symm)
  exact ownsRow_setCell_other this (fun e=>absurd (this.lt (w0.heap.size) e).1 (by omega)) kv'
 ·rw[List.length_append,List.map_append]
  have:=ownsRow_setCell_other (a:=⟨w0.heap.size,5,none⟩) hown (fun e=>absurd (hown.lt (w0.heap.size) e).1 (by omega)) kv'
  simpa using this
theorem St.item(h:St w0 fv w iv vs kv ks){x:Value}{iv':Value}
  (hown:w'.ownsRow (w0.heap.size+1) 67 7 iv' (vs.length+1) (vs.flatMap cellsOf++cellsOf x)) (hg:w.grownBy w' iv.ownBlock) :
  St w0 fv (w'.setCell ⟨w0.heap.size,4,none⟩ iv') iv' (vs++[x]) kv ks:=by
 have hvb:=lt_of_block h.vb
 have hkv:∀ g,iv.ownBlock=some g→w0.heap.size+1≤g∧g<w.heap.size:=h.own.lt
 have hvb':w'.heap[w0.heap.size]?=some (.cells #[.int .i64 8,.int .i64 0,.int .i64 0,.string { data:=#[] },iv,kv,fv] 67 (0,0)):=by
  rw[hg.block _ hvb (fun e=>by have:=hkv _ e.symm;omega)];exact h.vb
 refine⟨⟨hg.os.trans h.below.os,hg.tape.trans h.below.tape,hg.output.trans h.below.output,by have:=hg.size;have:=h.below.size;simp[World.setCell];omega,fun g h1=>?_⟩,?_,?_,?_⟩
 ·rw[bsCn _ (by show g≠w0.heap.size;omega),hg.block g (by have:=h.below.size;omega) (fun e=>by have:=hkv _ e.symm;omega)]
  exact h.below.block g h1
 ·rw[bsC _ hvb'];rfl
 ·rw[List.length_append,List.flatMap_append]
  have:=ownsRow_setCell_other (a:=⟨w0.heap.size,4,none⟩) hown (fun e=>absurd (hown.lt (w0.heap.size) e).1 (by omega)) iv'
  simpa using this
 ·have:=h.ownk.kept hg (by
   cases hk:kv.ownBlock with
   |none=>exact Or.inl rfl
   |some g =>
    refine Or.inr (fun e=>?_)
    exact oa_ h.own h.ownk (by decide) g e.symm hk)
  exact ownsRow_setCell_other this (fun e=>absurd (this.lt (w0.heap.size) e).1 (by omega)) iv'
def SStore(fl s:Nat)(w2:World)(iv:Value)(L:Array Bool)(W:World):Prop:=(L.getD fl false=false→W.cell? ⟨s,4,none⟩=some iv)∧∀ g,g<s→W.heap[g]?=w2.heap[g]?
theorem SStore.set{fl s i:Nat}{w2:World}{iv:Value}{L:Array Bool}{W:World}(hi:i≠fl):SStore fl s w2 iv L W↔SStore fl s w2 iv (L.setIfInBounds i true) W:=by
 unfold SStore
 rw[getD_set_ne false hi]
theorem ces{w w':World}{a:Addr}{v:Value}(h:w.cell? a=some v)(hb:w'.heap[a.block]?=w.heap[a.block]?):w'.cell? a=some v:=by
 unfold World.cell? at *
 rw[hb]
 exact h
theorem sOo{P:Nat→Prop}{k:Nat}{v:Value}{V:Node (VT k)}(h:VIn P (k+1) w v V)(hl:V.keys.length=V.items.length)(hfew:Few (k:=k+1) V) :
  Calls Tryz.prog 259 #[v] w (OptRes (fun g=>P g∨w.heap.size≤g) (k+1) (Fo.streamOf V) w):=by
 obtain⟨i0,hi,hz0,hz1,hz2⟩:=info_parts iV
 obtain⟨j0,gi,gz0,gz1,gz2⟩:=info_parts iS
 obtain⟨iv,kv,fv,vs,hv,hvl,hiv,hvs,hkv,hfv⟩:=h.parts
 have HC:Hid (∀ W:World,Below w.heap.size w W→Calls Tryz.prog 310 #[v] W (FsRes (Fo.filtersOf V) W)):=
  fun W b=>fOo (VIn.keep (k+1) h (fun g _ hg=>b.block g hg)) hl hfew
 obtain⟨ia,ic,rfl⟩:=ows hiv.1
 obtain⟨ka,kc,rfl⟩:=ows hkv.1
 obtain⟨fa,fc,rfl⟩:=ows hfv.1
 have HI:=hide hiv
 have HK:=hide hkv
 have HV:=hide hvs
 clear h hfv hiv hkv hvs
 obtain⟨n,hn⟩:∃ n,vs.length=n:=⟨_,rfl⟩
 have hkn:V.keys.length=n:=by omega
 have hn2:n≤200000:=by have:=hfew.1;omega
 rw[hkn,hn]at hv
 unfold nV at hv
 generalize (V.kind:Int)=kd at hv
 generalize V.n=nn at hv
 generalize (V.places:Int)=pp at hv
 generalize strN V.text=tt at hv
 generalize V.filters.length=fl at hv
 subst hv
 have HN:=hide (And.intro hn (And.intro hkn (And.intro hl hvl)))
 clear hl hfew hvl hn hkn
 have B2:Hid (Below w.heap.size w ((w.alloc (.cells #[.int .i64 kd,.int .i64 nn,.int .i64 pp,.string tt,.slice ia n ic,.slice ka n kc,.slice fa fl fc] 67)).alloc (.cells zero7 67))):=
  ((Below.refl _ _).alloc (Nat.le_refl _) _).alloc (by simp) _
 have HC2:=hide (HC.o _ B2.o)
 have HBX:Hid (((w.alloc (.cells #[.int .i64 kd,.int .i64 nn,.int .i64 pp,.string tt,.slice ia n ic,.slice ka n kc,.slice fa fl fc] 67)).alloc (.cells zero7 67)).heap[w.heap.size]?=some (.cells #[.int .i64 kd,.int .i64 nn,.int .i64 pp,.string tt,.slice ia n ic,.slice ka n kc,.slice fa fl fc] 67 (0,0))):=bla _ (bln _ _)
 have HRX:Hid (((w.alloc (.cells #[.int .i64 kd,.int .i64 nn,.int .i64 pp,.string tt,.slice ia n ic,.slice ka n kc,.slice fa fl fc] 67)).alloc (.cells zero7 67)).heap[w.heap.size+1]?=some (.cells zero7 67 (0,0))):=by
  have:=bln (w.alloc (.cells #[.int .i64 kd,.int .i64 nn,.int .i64 pp,.string tt,.slice ia n ic,.slice ka n kc,.slice fa fl fc] 67)) (.cells zero7 67)
  rw[World.size_alloc]at this
  exact this
 obtain⟨R,hR⟩:∃ R,Fo.streamOf V=R:=⟨_,rfl⟩
 have HR:=hide hR
 unfold Fo.streamOf at HR
 rw[hR]
 clear hR HC
 unfold zero7 at HC2
 cases e1:Fo.filtersOf V with
 |none =>
  rw[e1]at HC2 HR
  go_enter Tryz.func259,Tryz.ntmps259
  go_wp2_with fail
  refine HC2.o.mono ?_
  rintro e w2 ⟨b2,h2⟩
  simp only[]at h2
  subst h2
  exact⟨rfl,.none_ (B2.o.trans (b2.mono (by simp;omega))) HR.o.symm⟩
 |some fs =>
  rw[e1]at HC2 HR
  simp only[Option.map_some]at HR
  clear e1
  go_enter Tryz.func259,Tryz.ntmps259
  go_wp2_with fail
  refine HC2.o.mono ?_
  rintro e w2 ⟨b2,fv2,rfl,hfs⟩
  obtain⟨ga,gc,rfl⟩:=ows hfs
  have BB:=hide (B2.o.trans (b2.mono (by simp;omega)))
  have hbx2:w2.heap[w.heap.size]?=some (.cells #[.int .i64 kd,.int .i64 nn,.int .i64 pp,.string tt,.slice ia n ic,.slice ka n kc,.slice fa fl fc] 67 (0,0)):=by
   have hh:=HBX.o
   unfold zero7 at hh
   rw[b2.block _ (by simp;omega)];exact hh
  have hrx2:w2.heap[w.heap.size+1]?=some (.cells zero7 67 (0,0)):=by
   have hh:=HRX.o
   unfold zero7 at hh
   rw[b2.block _ (by simp)];exact hh
  have HFS:=hide hfs
  have HBX2:=hide hbx2
  have HRX2:=hide hrx2
  have hd5:∀ o:Obj,(w2.alloc o).cell? ⟨w.heap.size,5,none⟩=some (.slice ka n kc):=fun o=>by
   rw[World.cell?_alloc_lt _ _ _ (lt_of_block hbx2),ceb hbx2];rfl
  clear HBX HRX b2 hfs hbx2 hrx2 HC2 B2
  generalize hfsl:fs.length=fsl at *
  have HFL:=hide hfsl
  clear hfsl
  have HST0:Hid (St w2 (.slice ga fsl gc) (w2.alloc (.cells #[.int .i64 8,.int .i64 0,.int .i64 0,.string { data:=#[] },.slice none 0 0,.slice none 0 0,.slice ga fsl gc] 67)) (.slice none 0 0) [] (.slice none 0 0) []):=
   ⟨(Below.refl _ _).alloc (Nat.le_refl _) _,bln _ _,World.ownsRow_nil _ _ _ _,World.ownsRow_nil _ _ _ _⟩
  have hw2:w.heap.size+1<w2.heap.size:=lt_of_block HRX2.o
  go_wp2
  go_loopw [12] (fun i wr=>∃(m:Nat) (iv kv:Value),m≤n∧i=.int .i64 m∧Hid (St w2 (.slice ga fsl gc) wr iv ((Fo.keepZ ((V.keys.zip vs).take m)).map Prod.snd) kv ((Fo.keepZ ((V.keys.zip vs).take m)).map Prod.fst))) (fun i _=>n-(intOf i).toNat)
  case atStart=>exact⟨0,_,_,Nat.zero_le _,rfl,HST0⟩
  clear HST0 hd5
  case round =>
   obtain⟨m,iv,kv,hm,rfl,HT⟩:=hrel
   obtain⟨ea,ec,hive⟩:=ows HT.o.own
   obtain⟨oa,oc,hkve⟩:=ows HT.o.ownk
   rcases Nat.eq_or_lt_of_le hm with hm | hm
   ·subst hm
    have e1:(V.keys.zip vs).take m=V.keys.zip vs:=List.take_of_length_le (by rw[List.length_zip];have:=HN.o;omega)
    rw[e1]at HT hive hkve
    have hvb:=HT.o.vb
    have hrb:wr.heap[w.heap.size+1]?=some (.cells zero7 67 (0,0)):=by
     rw[HT.o.below.block _ hw2];exact HRX2.o
    subst hive
    subst hkve
    generalize hln1:((Fo.keepZ (V.keys.zip vs)).map Prod.snd).length=ln1 at *
    generalize hln2:((Fo.keepZ (V.keys.zip vs)).map Prod.fst).length=ln2 at *
    have HRB:=hide hrb
    unfold zero7 at hrb
    have v0:wr.cell? ⟨w2.heap.size,0,none⟩=some (.int .i64 8):=ceb hvb
    have v1:wr.cell? ⟨w2.heap.size,1,none⟩=some (.int .i64 0):=ceb hvb
    have v2:wr.cell? ⟨w2.heap.size,2,none⟩=some (.int .i64 0):=ceb hvb
    have v3:wr.cell? ⟨w2.heap.size,3,none⟩=some (.string { data:=#[] }):=ceb hvb
    have v4:wr.cell? ⟨w2.heap.size,4,none⟩=some (.slice ea ln1 ec):=ceb hvb
    have v5:wr.cell? ⟨w2.heap.size,5,none⟩=some (.slice oa ln2 oc):=ceb hvb
    have v6:wr.cell? ⟨w2.heap.size,6,none⟩=some (.slice ga fsl gc):=ceb hvb
    have r0:wr.cell? ⟨w.heap.size+1,0,none⟩=some (.int .i64 0):=ceb hrb
    have f0:wr.frozen? ⟨w.heap.size+1,0,none⟩=false:=frb hrb
    have r1:wr.cell? ⟨w.heap.size+1,1,none⟩=some (.int .i64 0):=ceb hrb
    have f1:wr.frozen? ⟨w.heap.size+1,1,none⟩=false:=frb hrb
    have r2:wr.cell? ⟨w.heap.size+1,2,none⟩=some (.int .i64 0):=ceb hrb
    have f2:wr.frozen? ⟨w.heap.size+1,2,none⟩=false:=frb hrb
    have r3:wr.cell? ⟨w.heap.size+1,3,none⟩=some (.string { data:=#[] }):=ceb hrb
    have f3:wr.frozen? ⟨w.heap.size+1,3,none⟩=false:=frb hrb
    have r4:wr.cell? ⟨w.heap.size+1,4,none⟩=some (.slice none 0 0):=ceb hrb
    have f4:wr.frozen? ⟨w.heap.size+1,4,none⟩=false:=frb hrb
    have r5:wr.cell? ⟨w.heap.size+1,5,none⟩=some (.slice none 0 0):=ceb hrb
    have f5:wr.frozen? ⟨w.heap.size+1,5,none⟩=false:=frb hrb
    have r6:wr.cell? ⟨w.heap.size+1,6,none⟩=some (.slice none 0 0):=ceb hrb
    have f6:wr.frozen? ⟨w.heap.size+1,6,none⟩=false:=frb hrb
    have HLN:=hide (And.intro hln1 hln2)
    clear hvb hrb hln1 hln2
    go_wp2
    have hf:=set7 HRB.o (.int .i64 8) (.int .i64 0) (.int .i64 0) (.string { data:=#[] }) (.slice ea ln1 ec) (.slice oa ln2 oc) (.slice ga fsl gc)
    have ho:=only7 wr (w.heap.size+1) (.int .i64 8) (.int .i64 0) (.int .i64 0) (.string { data:=#[] }) (.slice ea ln1 ec) (.slice oa ln2 oc) (.slice ga fsl gc)
    refine bodyPost_ret (v:=.agg #[.int .i64 8,.int .i64 0,.int .i64 0,.string { data:=#[] },.slice ea ln1 ec,.slice oa ln2 oc,.slice ga fsl gc]) ?_ rfl ?_
    ·exact results_cell_row Tryz.results259 _ _ (w.heap.size+1) 67 _ _ _ rfl hf Tryz.underlying67 rfl (by kernel_rfl)
    obtain⟨p1,p2,p3⟩:=Fo.keep_both (R:=fun x y=>VIn P k w x y) V.keys vs V.items (by have:=HN.o;omega) HV.o
    have hT:=HT.o
    have hbw:Below w.heap.size w wr:=BB.o.trans (hT.below.mono BB.o.size)
    have hlow:∀ g,g≠w.heap.size+1→g<wr.heap.size→_:=fun g h1 h2=>ho.block g h2 h1
    refine .some_ ?_ HR.o.symm ⟨.slice ea ln1 ec,.slice oa ln2 oc,.slice ga fsl gc,(Fo.keepZ (V.keys.zip vs)).map Prod.snd,rfl,?_,?_,?_,?_,?_⟩
    ·exact⟨ho.os.trans hbw.os,ho.tape.trans hbw.tape,ho.output.trans hbw.output,Nat.le_trans hbw.size ho.size,fun g hg=>(hlow g (by omega) (Nat.lt_of_lt_of_le hg hbw.size)).trans (hbw.block g hg)⟩
    ·show((Fo.keepZ (V.keys.zip vs)).map Prod.snd).length=((Fo.keepZ (V.keys.zip V.items)).map Prod.snd).length
     rw[List.length_map,List.length_map,p2]
    ·refine RowIn.keep (w:=wr) (P:=fun g=>(P g∧g<w.heap.size)∨w2.heap.size≤g) (RowIn.of hT.own (fun g hg=>Or.inr (by have:=(hT.own.lt g hg).1;omega))) (fun g hg hg2=>hlow g (by omega) hg2) |>.mono (fun g hg _=>by rcases hg with hg | hg;exact Or.inl hg.1;exact Or.inr (by omega))
    ·intro i x y hx hy
     refine VIn.mono k (VIn.keep k (VIn.mono (Q:=fun g=>P g∧g<w.heap.size) k (p3 i x y hx hy) (fun g h1 h2=>⟨h1,h2⟩)) (fun g hg hg2=>?_)) (fun g hg _=>Or.inl hg.1)
     exact(hlow g (by omega) (Nat.lt_of_lt_of_le hg.2 hbw.size)).trans (hbw.block g hg.2)
    ·show RowIn _ _ 9 1 _ ((Fo.keepZ (V.keys.zip V.items)).map Prod.fst).length (((Fo.keepZ (V.keys.zip V.items)).map Prod.fst).map fun s=>.string (strN s))
     rw[←p1]
     refine RowIn.keep (w:=wr) (P:=fun g=>(P g∧g<w.heap.size)∨w2.heap.size≤g) (RowIn.of hT.ownk (fun g hg=>Or.inr (by have:=(hT.ownk.lt g hg).1;omega))) (fun g hg hg2=>hlow g (by omega) hg2) |>.mono (fun g hg _=>by rcases hg with hg | hg;exact Or.inl hg.1;exact Or.inr (by omega))
    ·have hfs:=obW HFS.o (b:=hT.below)
     show RowIn _ _ 3 1 _ fs.length _
     rw[HFL.o]
     refine RowIn.keep (w:=wr) (P:=fun g=>w.heap.size+2≤g) (RowIn.of hfs (fun g hg=>by have:=(hfs.lt g hg).1;simp at this;omega)) (fun g hg hg2=>hlow g (by omega) hg2) |>.mono (fun g hg _=>Or.inr (by omega))
   ·obtain⟨x,hx⟩:∃ x,vs[m]?=some x:=⟨_,List.getElem?_eq_getElem (by have:=HN.o;omega)⟩
    obtain⟨y,hy⟩:∃ y,V.items[m]?=some y:=⟨_,List.getElem?_eq_getElem (by have:=HN.o;omega)⟩
    obtain⟨key,hkey⟩:∃ key,V.keys[m]?=some key:=⟨_,List.getElem?_eq_getElem (by have:=HN.o;omega)⟩
    have hall:∀ x∈vs,(cellsOf x).length=7:=fun x hx=>by
     obtain⟨i,hi2,hix⟩:=List.getElem_of_mem hx
     obtain⟨y,hy⟩:∃ y,V.items[i]?=some y:=⟨_,List.getElem?_eq_getElem (by have:=HN.o;omega)⟩
     exact(HV.o i x y (by rw[List.getElem?_eq_getElem hi2,hix]) hy).cells.1
    obtain⟨g,c,hge,hnc,hcm,hgb,hgc⟩:=rop HI.o.1 hall (by decide) hx
    rw[HN.o.1]at hge
    cases hge
    obtain⟨g2,c2,hge2,hgc2⟩:=ro HK.o.1 (show(V.keys.map fun s=>Value.string (strN s))[m]?=some (.string (strN key))by rw[List.getElem?_map,hkey];rfl)
    rw[HN.o.2.1]at hge2
    cases hge2
    have HVX:=hide (HV.o m x y hx hy).cells
    obtain⟨k0,k1,k2,k3,ja,jl,jc,ka2,kl,kc2,fa2,fl2,fc2,hxf⟩:=VIn.form (HV.o m x y hx hy)
    have HZ:=hide (Fo.keepZ_succ (V.keys.zip vs) m key x (by rw[List.getElem?_zip_eq_some];exact⟨hkey,hx⟩))
    have HLZ:=hide (show(Fo.keepZ ((V.keys.zip vs).take m)).length≤n from Nat.le_trans (Fo.keepZ_len _) (by rw[List.length_take];omega))
    have hgl:g<w.heap.size:=World.block_lt_of_cell? w _ (hgc 0 _ (by rw[hxf];rfl))
    have hold:∀{a:Addr} {u:Value},w.cell? a=some u→w2.cell? a=some u:=fun{a u} h=>by
     rw[BB.o.cell (World.block_lt_of_cell? w a h)];exact h
    have D0:Hid (w2.cell? ⟨g,m*7,none⟩=some (.int .i64 k0)):=hold (hgc 0 _ (by rw[hxf];rfl))
    have D1:Hid (w2.cell? ⟨g,m*7+1,none⟩=some (.int .i64 k1)):=hold (hgc 1 _ (by rw[hxf];rfl))
    have D2:Hid (w2.cell? ⟨g,m*7+2,none⟩=some (.int .i64 k2)):=hold (hgc 2 _ (by rw[hxf];rfl))
    have D3:Hid (w2.cell? ⟨g,m*7+3,none⟩=some (.string k3)):=hold (hgc 3 _ (by rw[hxf];rfl))
    have D4:Hid (w2.cell? ⟨g,m*7+4,none⟩=some (.slice ja jl jc)):=hold (hgc 4 _ (by rw[hxf];rfl))
    have D5:Hid (w2.cell? ⟨g,m*7+5,none⟩=some (.slice ka2 kl kc2)):=hold (hgc 5 _ (by rw[hxf];rfl))
    have D6:Hid (w2.cell? ⟨g,m*7+6,none⟩=some (.slice fa2 fl2 fc2)):=hold (hgc 6 _ (by rw[hxf];rfl))
    have dk:wr.cell? ⟨g2,m,none⟩=some (.string (strN key)):=by
     rw[HT.o.below.cell (by have:=World.block_lt_of_cell? w2 _ (hold hgc2);exact this)];exact hold hgc2
    subst hxf
    clear hold hgc hgc2 hx hy hkey hall hgb hnc hcm
    generalize hzz:Fo.keepZ ((V.keys.zip vs).take m)=zz at *
    clear hzz
    obtain⟨S,hS⟩:∃ S,strN key=S:=⟨_,rfl⟩
    rw[hS]at HZ dk
    have HSK:=hide hS
    clear hS
    by_cases h1:S={ data:=#[76,101,110,103,116,104] }
    ·have hok:Fo.ownKey S=true:=by unfold Fo.ownKey;rw[decide_eq_true h1];rfl
     have HZ2:=hide (HZ.o.trans (by rw[if_pos hok,List.append_nil]))
     have c1:(S.toList==[76,101,110,103,116,104])=true:=by rw[strK,decide_eq_true_eq];exact h1
     clear HZ h1 hok
     go_wp2
     go_roundw
     case rel=>exact⟨m+1,_,_,by omega,by first | rfl | (congr 1),by rw[HZ2.o];exact HT⟩
     case measure=>simp[intOf];omega
    ·have c1:(S.toList==[76,101,110,103,116,104])=false:=by rw[strK,decide_eq_false_iff_not];exact h1
     by_cases h2:S={ data:=#[70,105,108,116,101,114] }
     ·have hok:Fo.ownKey S=true:=by unfold Fo.ownKey;rw[decide_eq_true h2,Bool.or_true]
      have HZ2:=hide (HZ.o.trans (by rw[if_pos hok,List.append_nil]))
      have c2:(S.toList==[70,105,108,116,101,114])=true:=by rw[strK,decide_eq_true_eq];exact h2
      clear HZ h1 h2 hok
      go_wp2
      go_roundw
      case rel=>exact⟨m+1,_,_,by omega,by first | rfl | (congr 1),by rw[HZ2.o];exact HT⟩
      case measure=>simp[intOf];omega
     ·have hok:Fo.ownKey S=false:=by unfold Fo.ownKey;rw[decide_eq_false h1,decide_eq_false h2];rfl
      have HZ2:=hide (HZ.o.trans (by rw[if_neg (by rw[hok];decide)]))
      have c2:(S.toList==[70,105,108,116,101,114])=false:=by rw[strK,decide_eq_false_iff_not];exact h2
      have HZF:Hid ((Fo.keepZ ((V.keys.zip vs).take (m+1))).map Prod.fst=zz.map Prod.fst++[key]):=by unfold Hid;rw[HZ2.o,List.map_append];rfl
      have HZS:Hid ((Fo.keepZ ((V.keys.zip vs).take (m+1))).map Prod.snd=zz.map Prod.snd++[Value.agg #[.int .i64 k0,.int .i64 k1,.int .i64 k2,.string k3,.slice ja jl jc,.slice ka2 kl kc2,.slice fa2 fl2 fc2]]):=by unfold Hid;rw[HZ2.o,List.map_append];rfl
      have hlz:(zz.map Prod.fst).length≤n:=by rw[List.length_map];exact HLZ.o
      have hlz2:(zz.map Prod.snd).length≤n:=by rw[List.length_map];exact HLZ.o
      clear HZ2 HZ HLZ
      generalize zz.map Prod.fst=zf at *
      generalize zz.map Prod.snd=zs at *
      have q5:wr.cell? ⟨w2.heap.size,5,none⟩=some kv:=ceb HT.o.vb
      have hwr:w2.heap.size<wr.heap.size:=lt_of_block HT.o.vb
      subst hkve
      clear h1 h2 hok
      generalize hfs1:zf.length=fs1 at *
      have HF1:=hide hfs1
      clear hfs1
      go_wp2_with (at_builtin;refine wpList_append_own _ rfl (.tmp 24) (.tmp 26) 38 rfl (w2.heap.size+1) 9 j0 (.string { data:=#[] }) 1 16 Tryz.underlying38 gi gz0 gz1 gz2 rfl (by decide) _ zf.length _ rfl (HT.o.ownk.alloc _) ⟨wr.heap.size,0,none⟩ 1 1 [.string S] rfl rfl ?hnews ?hone ?h63 ?hby ?hbs ?_)
      case hnews =>
       intro j u hu
       rw[aa,ceb (bln wr _)]
       simpa using hu
      case hone=>intro u hu;simp at hu;subst hu;rfl
      case h63=>unfold maxLen;rw[HF1.o];omega
      case hby=>rw[HF1.o];omega
      case hbs=>simp;omega
      intro v6 w6 own6 hg6 _
      have HT6:Hid (St w2 (.slice ga fsl gc) (w6.setCell ⟨w2.heap.size,5,none⟩ v6) iv zs v6 (zf++[key])):=(HT.o.alloc _).key (by rw[HSK.o];exact own6) hg6
      have hv6:w6.heap[w2.heap.size]?=some (.cells #[.int .i64 8,.int .i64 0,.int .i64 0,.string { data:=#[] },iv,.slice oa fs1 oc,.slice ga fsl gc] 67 (0,0)):=by
       rw[hg6.block _ (by simp;omega) (fun e=>by have:=(HT.o.ownk.lt _ e.symm).1;omega),heap_alloc_old _ _ hwr];exact HT.o.vb
      have hc6:w6.cell? ⟨w2.heap.size,5,none⟩=some (.slice oa fs1 oc):=ceb hv6
      have hf6:w6.frozen? ⟨w2.heap.size,5,none⟩=false:=frb hv6
      obtain⟨ao6,c6,hv6s⟩:=ows own6
      subst hv6s
      clear own6 hg6 hv6
      go_wp2_with fail
      generalize w6.setCell ⟨w2.heap.size,5,none⟩ (.slice ao6 _ c6)=w7 at *
      have hvb7:=HT6.o.vb
      have HC7:Hid (SStore 10 w2.heap.size w2 iv (Array.replicate 11 false) w7.drew):=⟨fun _=>ceb HT6.o.drew.vb,fun g hg=>HT6.o.drew.below.block g hg⟩
      have HBI:Hid (w2.cell? ⟨w.heap.size,4,none⟩=some (.slice (some ⟨g,0,none⟩) n ic)):=by unfold Hid;rw[ceb HBX2.o];rfl
      clear hc6 hf6 hvb7 q5 c1 c2 dk
      refine wrT (SStore 10 w2.heap.size w2 iv) (by kernel_rfl) ?_
      intro hD
      have hS:=HC7.o
      refine ti 0 ?_ hD hS ?_
      clear hD hS;intro hD hS;(try simp only[putL])
      refine tk 1 ?_ hD ?_ hS ?_
      rotate_left
      ·intro W hW;obtain⟨L,hDs,hL,hSL⟩:=hW;have hcl:=hSL.1 (by cases h9:L.getD 10 false with | false=>rfl | true=>exact absurd (hDs.came 2 10 (by kernel_rfl) h9) (by rw[gDi hL];decide));go_simp;try(with_reducible rfl)
      clear hD hS;intro hD hS;(try simp only[putL])
      refine ti 2 ?_ hD hS ?_
      clear hD hS;intro hD hS;(try simp only[putL])
      refine tk 3 ?_ hD ?_ hS ?_
      rotate_left
      ·intro W hW;obtain⟨L,hDs,hL,hSL⟩:=hW;have hcl:=ces HBI.o (hSL.2 _ (by show w.heap.size<_;omega));go_simp;try(with_reducible rfl)
      clear hD hS;intro hD hS;(try simp only[putL])
      refine ti 4 ?_ hD hS ?_
      clear hD hS;intro hD hS;(try simp only[putL])
      refine ti 5 ?_ hD hS ?_
      clear hD hS;intro hD hS;(try simp only[putL])
      refine tk 6 ?_ hD ?_ hS ?_
      rotate_left
      ·intro W hW;obtain⟨L,hDs,hL,hSL⟩:=hW;have hgg:=hSL.2 g (by omega);have e0:=ces D0.o hgg;have e1:=ces D1.o hgg;have e2:=ces D2.o hgg;have e3:=ces D3.o hgg;have e4:=ces D4.o hgg;have e5:=ces D5.o hgg;have e6:=ces D6.o hgg;go_simp;try(with_reducible rfl)
      clear hD hS;intro hD hS;(try simp only[putL])
      refine on 7 hD fun K' hK=>?_
      go_simp
      have H8:=hide (HT6.o.drew.alloc (.cells #[.int .i64 k0,.int .i64 k1,.int .i64 k2,.string k3,.slice ja jl jc,.slice ka2 kl kc2,.slice fa2 fl2 fc2] 67))
      have hs8:w2.heap.size<w7.heap.size:=lt_of_block HT6.o.vb
      have HC8:Hid (SStore 10 w2.heap.size w2 iv #[true,true,true,true,true,true,true,true,false,false,false] (w7.drew.alloc (.cells #[.int .i64 k0,.int .i64 k1,.int .i64 k2,.string k3,.slice ja jl jc,.slice ka2 kl kc2,.slice fa2 fl2 fc2] 67))):=⟨fun _=>ceb H8.o.vb,fun g hg=>H8.o.below.block g hg⟩
      refine hK.o _ _ HC8.o (fun hD2 hS2=>?_)
      clear hD hS hK K'
      have hD:=hD2
      have hS:=hS2
      clear hD2 hS2
      (try simp only[putL])
      refine on 8 hD fun K' hK=>?_
      refine saw rfl (.tmp 30) (.tmp 36) 29 rfl (w2.heap.size+1) 67 i0 _ 7 112 Tryz.underlying29 hi hz0 hz1 hz2 rfl (by decide) iv zs.length (zs.flatMap cellsOf) (by rw[hive];rfl) H8.o.own ⟨w7.heap.size,0,none⟩ 1 1 [.int .i64 k0,.int .i64 k1,.int .i64 k2,.string k3,.slice ja jl jc,.slice ka2 kl kc2,.slice fa2 fl2 fc2] rfl rfl ?hnews ?hone ?h63 ?hby ?hbs ?_
      case hnews =>
       intro j u hu
       rw[aa]
       show(w7.alloc (.cells #[.int .i64 k0,.int .i64 k1,.int .i64 k2,.string k3,.slice ja jl jc,.slice ka2 kl kc2,.slice fa2 fl2 fc2] 67)).cell? ⟨w7.heap.size,j,none⟩=some u
       rw[ceb (bln w7 _)]
       simpa using hu
      case hone=>exact HVX.o.2
      case h63=>unfold maxLen;omega
      case hby=>omega
      case hbs=>simp;omega
      intro v9 w9 own9 hg9 hw9
      have H9:Hid (St w2 (.slice ga fsl gc) (w9.setCell ⟨w2.heap.size,4,none⟩ v9) v9 (zs++[.agg #[.int .i64 k0,.int .i64 k1,.int .i64 k2,.string k3,.slice ja jl jc,.slice ka2 kl kc2,.slice fa2 fl2 fc2]]) _ (zf++[key])):=H8.o.item own9 hg9
      have hv9:=(hg9.block w2.heap.size (lt_of_block H8.o.vb) (fun e=>by have:=(H8.o.own.lt _ e.symm).1;omega)).trans H8.o.vb
      have hc9:w9.cell? ⟨w2.heap.size,4,none⟩=some iv:=ceb hv9
      have hf9:w9.frozen? ⟨w2.heap.size,4,none⟩=false:=frb hv9
      have HL9:Hid (∀ g,g<w2.heap.size→w9.heap[g]?=w2.heap[g]?):=fun g hg=>by
       exact(hg9.block g (Nat.lt_trans hg (lt_of_block H8.o.vb)) (fun e=>by have:=(H8.o.own.lt _ e.symm).1;omega)).trans (H8.o.below.block g hg)
      obtain⟨ao9,c9,hv9s⟩:=ows own9
      subst hv9s
      clear own9 hg9 hw9 hv9 H8 HC8
      refine hK.o _ _ ⟨fun _=>hc9,HL9.o⟩ (fun hD2 hS2=>?_)
      clear hD hS hK K'
      have hD:=hD2
      have hS:=hS2
      clear hD2 hS2
      (try simp only[putL])
      refine on 9 hD fun K' hK=>?_
      go_simp
      refine hK.o _ _ ⟨fun _=>hc9,HL9.o⟩ (fun hD2 hS2=>?_)
      clear hD hS hK K'
      have hD:=hD2
      have hS:=hS2
      clear hD2 hS2
      (try simp only[putL])
      refine on 10 hD fun K' hK=>?_
      go_simp
      refine hK.o _ _ ⟨fun h9=>(by cases h9),fun g hg=>by rw[bsCn _ (by show g≠w2.heap.size;omega)];exact HL9.o g hg⟩ (fun hD2 hS2=>?_)
      clear hD hS hK K'
      have hD:=hD2
      have hS:=hS2
      clear hD2 hS2
      (try simp only[putL])
      refine wATd (by kernel_rfl) ?_ _
      clear hD hS
      clear hc9 hf9 HL9
      go_wp2
      go_roundw
      case rel=>exact⟨m+1,_,_,by omega,by first | rfl | (congr 1),by rw[HZF.o,HZS.o];exact H9⟩
      case measure=>simp[intOf];omega
end
end Go.Proofs.YtgkljcmjnphpeaaGreatDoor
