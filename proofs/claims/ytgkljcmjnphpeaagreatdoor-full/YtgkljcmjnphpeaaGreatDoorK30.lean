import Derived.Test.YtgkljcmjnphpeaaGreatDoorK29
set_option linter.unusedVariables false
set_option linter.unusedSimpArgs false
set_option maxHeartbeats 2000000
set_option maxRecDepth 100000
namespace Go.Proofs.YtgkljcmjnphpeaaGreatDoor
open Go.RowKit
def key3(a b c:Nat):Value:=.agg #[.int .u8 (a:Int),.int .u8 (b:Int),.int .u8 (c:Int)]
theorem ki{a b c a' b' c':Nat}(h:key3 a b c=key3 a' b' c'):a=a'∧b=b'∧c=c':=by
 simp[key3]at h;omega
theorem rue(a0 a1 a2 b0 b1 b2:Nat)(h0:a0<256)(h1:a1<256)(h2:a2<256)(k0:b0<256)(k1:b1<256)(k2:b2<256)(W:World) :
  (Op.equal 281 (key3 a0 a1 a2) (key3 b0 b1 b2)).run Tryz.prog W=.ok (decide ([a0,a1,a2]=[b0,b1,b2])) W:=by
 have h:=run_equalIn_bytes (P:= Tryz.prog) W 9998 281 5 3 Tryz.underlying281 Tryz.underlying5 sb_ [UInt8.ofNat a0,UInt8.ofNat a1,UInt8.ofNat a2] [UInt8.ofNat b0,UInt8.ofNat b1,UInt8.ofNat b2] rfl rfl
 have e:∀ n:Nat,n<256→(UInt8.ofNat n).toNat=n:=fun n hn=>by simp[Nat.mod_eq_of_lt hn]
 have inj:∀ m n:Nat,m<256→n<256→(UInt8.ofNat m=UInt8.ofNat n↔m=n):=fun m n hm hn=>⟨fun h=>by rw[←e m hm,←e n hn,h],fun h=>by rw[h]⟩
 have hb:([UInt8.ofNat a0,UInt8.ofNat a1,UInt8.ofNat a2]==[UInt8.ofNat b0,UInt8.ofNat b1,UInt8.ofNat b2])=decide ([a0,a1,a2]=[b0,b1,b2]):=by
  rw[Bool.eq_iff_iff,beq_iff_eq,decide_eq_true_iff]
  simp only[List.cons.injEq,and_true,inj a0 b0 h0 k0,inj a1 b1 h1 k1,inj a2 b2 h2 k2]
 rw[hb]at h
 simp only[List.map_cons,List.map_nil,Extern.Stop.cell,e _ h0,e _ h1,e _ h2,e _ k0,e _ k1,e _ k2]at h
 rw[show(9998+2:Nat)=10000 from rfl]at h
 exact h
theorem rc(em:Bool)(a b c:Nat)(W:World):(Instr.checkKey em 10000 281 (key3 a b c)).run Tryz.prog W=.ok () W:=by
 cases em<;>kernel_rfl
theorem rs_(a b c:Nat)(W:World):(Instr.keyThatStays (key3 a b c) (key3 a b c)).run Tryz.prog W=.ok (key3 a b c) W:=by
 have h:Instr.sameBits 10000 (key3 a b c) (key3 a b c)=true:=by
  simp[Instr.sameBits,key3]
 unfold Instr.keyThatStays
 rw[if_pos h];rfl
def Keys3(es:List MapEntry):Prop:=∀ e∈es,∃ a b c,a<256∧b<256∧c<256∧e.key=key3 a b c
theorem ra(a b c:Nat)(ha:a<256)(hb:b<256)(hc:c<256)(W:World):∀(es:List MapEntry) (i:Nat),Keys3 es →
  ((Instr.findAsking 281 (key3 a b c) es i).run Tryz.prog W=.ok none W∧∀ e∈es,e.key≠key3 a b c)∨∃ j e,(Instr.findAsking 281 (key3 a b c) es i).run Tryz.prog W=.ok (some (i+j,e.val)) W∧es[j]?=some e∧e.key=key3 a b c
 | [],i,_=>Or.inl ⟨rfl,by simp⟩
 |e::es,i,h=>by
  obtain⟨a',b',c',ha',hb',hc',hk⟩:=h e (by simp)
  have hq:=rue a b c a' b' c' ha hb hc ha' hb' hc' W
  by_cases hd:[a,b,c]=[a',b',c']
  ·rw[decide_eq_true hd]at hq
   refine Or.inr ⟨0,e,?_,rfl,?_⟩
   ·simp[Instr.findAsking,hk,hq,Result.andThen]
   ·rw[hk];simp at hd;obtain⟨rfl,rfl,rfl⟩:=hd;rfl
  ·rw[decide_eq_false hd]at hq
   have hs:(Instr.findAsking 281 (key3 a b c) (e::es) i).run Tryz.prog W=(Instr.findAsking 281 (key3 a b c) es (i+1)).run Tryz.prog W:=by
    simp[Instr.findAsking,hk,hq,Result.andThen]
   rw[hs]
   rcases ra a b c ha hb hc W es (i+1) (fun x hx=>h x (List.mem_cons_of_mem _ hx))with h1 | ⟨j,x,h1,h2,h3⟩
   ·refine Or.inl ⟨h1.1,fun x hx=>?_⟩
    rcases List.mem_cons.1 hx with rfl | hx
    ·intro he
     obtain⟨k1,k2,k3⟩:=ki (hk.symm.trans he)
     exact hd (by rw[k1,k2,k3])
    ·exact h1.2 x hx
   ·exact Or.inr ⟨j+1,x,by rw[h1,show i+1+j=i+(j+1)by omega],by simpa using h2,h3⟩
theorem rf(a b c:Nat)(ha:a<256)(hb:b<256)(hc:c<256)(W:World)(es:List MapEntry)(h:Keys3 es) :
  ((Instr.findKey 281 (key3 a b c) es).run Tryz.prog W=.ok none W∧∀ e∈es,e.key≠key3 a b c)∨∃ j e,(Instr.findKey 281 (key3 a b c) es).run Tryz.prog W=.ok (some (j,e.val)) W∧es[j]?=some e∧e.key=key3 a b c:=by
 have hu:(underlying 281).run Tryz.prog W=.ok (.array 3 5) W:=by kernel_rfl
 cases es with
 |nil=>refine Or.inl ⟨?_,by simp⟩;simp[Instr.findKey,hu,Instr.findNow,Result.andThen]
 |cons e es =>
  have hn:Instr.findNow (.array 3 5) (key3 a b c) (e::es) 0=none:=by
   obtain⟨a',b',c',_,_,_,hk⟩:=h e (by simp)
   simp[Instr.findNow,hk,key3,Instr.sameNow]
  have he:(Instr.findKey 281 (key3 a b c) (e::es)).run Tryz.prog W=(Instr.findAsking 281 (key3 a b c) (e::es)).run Tryz.prog W:=by
   simp[Instr.findKey,hu,hn,Result.andThen]
  rw[he]
  rcases ra a b c ha hb hc W (e::es) 0 h with h1 | ⟨j,x,h1,h2,h3⟩
  ·exact Or.inl h1
  ·exact Or.inr ⟨j,x,by rw[h1,Nat.zero_add],h2,h3⟩
section
variable{w:World}
def Alike(data:List Nat):Prop:=∀ i,i<data.length→nth data i=nth data 0
def OK(es:List MapEntry)(data:List Nat)(at_:Nat):Prop:=
 Alike data→es.length≤1∧∀ p,p+1=at_→p+3≤data.length→∃ e,es=[e]∧e.val=.int .i64 (p:Int)
def Stood(w:World)(bm:Nat)(data:List Nat)(at_:Nat):Prop:=
 ∃ es clock,w.heap[bm]?=some (.map es clock)∧(∀ e∈es.toList,∃ p:Nat,e.val=.int .i64 (p:Int)∧p<at_∧p+3≤data.length∧e.key=key3 (nth data p) (nth data (p+1)) (nth data (p+2)))∧OK es.toList data at_
theorem Stood.keys{es:List MapEntry}{data:List Nat}{at_:Nat}(hb:∀ i,i<data.length→nth data i<256)
  (h:∀ e∈es,∃ p:Nat,e.val=.int .i64 (p:Int)∧p<at_∧p+3≤data.length∧e.key=key3 (nth data p) (nth data (p+1)) (nth data (p+2))):Keys3 es:=by
 intro e he
 obtain⟨p,_,_,h3,h4⟩:=h e he
 exact⟨_,_,_,hb _ (by omega),hb _ (by omega),hb _ (by omega),h4⟩
theorem Stood.look{bm at_:Nat}{data:List Nat}(h:Stood w bm data at_)(hb:∀ i,i<data.length→nth data i<256)(q:Nat)(hq:q+3≤data.length) :
  ∃(p:Nat) (ok:Bool),(Instr.lookup 191 (.map (some bm)) (key3 (nth data q) (nth data (q+1)) (nth data (q+2))) true).run Tryz.prog w=.ok (.tuple #[.int .i64 (p:Int),.bool ok]) w ∧
   (ok=true→p<at_∧p+3≤data.length∧nth data p=nth data q∧nth data (p+1)=nth data (q+1)∧nth data (p+2)=nth data (q+2)) ∧
   (Alike data→0<at_→at_+3≤data.length→ok=true∧p+1=at_):=by
 obtain⟨es,clock,h1,h2,h5⟩:=h
 have hu:(underlying 191).run Tryz.prog w=.ok (.map 281 3) w:=by kernel_rfl
 have hz:(zeroValue 3).run Tryz.prog w=.ok (.int .i64 0) w:=by kernel_rfl
 rcases rf (nth data q) (nth data (q+1)) (nth data (q+2)) (hb _ (by omega)) (hb _ (by omega)) (hb _ (by omega)) w es.toList (Stood.keys hb h2)with hf | ⟨j,e,hf,he,hk⟩
 ·refine⟨0,false,?_,by simp,fun ha h0 hl=>?_⟩
  ·simp[Instr.lookup,hu,MapKept.run_getObj_map h1,rc,hf.1,hz,Result.andThen]
  ·obtain⟨e,he,hv⟩:=(h5 ha).2 (at_-1) (by omega) (by omega)
   obtain⟨p,p1,p2,p3,p4⟩:=h2 e (by rw[he];simp)
   refine absurd ?_ (hf.2 e (by rw[he];simp))
   rw[p4,ha p (by omega),ha (p+1) (by omega),ha (p+2) (by omega),ha q (by omega),ha (q+1) (by omega),ha (q+2) (by omega)]
 ·obtain⟨p,p1,p2,p3,p4⟩:=h2 e (List.mem_of_getElem? he)
  obtain⟨k1,k2,k3⟩:=ki (p4.symm.trans hk)
  refine⟨p,true,?_,fun _=>⟨p2,p3,k1,k2,k3⟩,fun ha h0 hl=>⟨rfl,?_⟩⟩
  ·simp[Instr.lookup,hu,MapKept.run_getObj_map h1,rc,hf,p1,Result.andThen]
  ·obtain⟨e',he',hv⟩:=(h5 ha).2 (at_-1) (by omega) (by omega)
   have hm:=List.mem_of_getElem? he
   rw[he',List.mem_singleton]at hm
   subst hm
   rw[p1]at hv
   simp at hv
   omega
theorem Stood.put{bm at_:Nat}{data:List Nat}(h:Stood w bm data at_)(hb:∀ i,i<data.length→nth data i<256)(hq:at_+3≤data.length) :
  ∃ es,(Instr.mapUpdate 191 (.map (some bm)) (key3 (nth data at_) (nth data (at_+1)) (nth data (at_+2))) (.int .i64 (at_:Int))).run Tryz.prog w=.ok () { w with heap:=w.heap.setIfInBounds bm es } ∧
   Stood { w with heap:=w.heap.setIfInBounds bm es } bm data (at_+1):=by
 obtain⟨es,clock,h1,h2,h5⟩:=h
 have hlt:=lt_of_block h1
 have hu:(underlying 191).run Tryz.prog w=.ok (.map 281 3) w:=by kernel_rfl
 rcases rf (nth data at_) (nth data (at_+1)) (nth data (at_+2)) (hb _ (by omega)) (hb _ (by omega)) (hb _ (by omega)) w es.toList (Stood.keys hb h2)with hf | ⟨j,e,hf,he,hk⟩
 ·refine⟨.map (es.push ⟨key3 (nth data at_) (nth data (at_+1)) (nth data (at_+2)),.int .i64 (at_:Int),clock⟩) (clock+1),?_,?_⟩
  ·simp[Instr.mapUpdate,hu,MapKept.run_getObj_map h1,rc,hf.1,MapKept.run_setObj_map _ h1,Result.andThen]
  ·refine⟨_,_,Array.getElem?_setIfInBounds_self_of_lt hlt,?_,fun ha=>?_⟩
   rotate_left
   ·have he:es.toList=[]:=by
     cases hes:es.toList with
     |nil=>rfl
     |cons x l =>
      obtain⟨p,p1,p2,p3,p4⟩:=h2 x (by rw[hes];simp)
      refine absurd ?_ (hf.2 x (by rw[hes];simp))
      rw[p4,ha p (by omega),ha (p+1) (by omega),ha (p+2) (by omega),ha at_ (by omega),ha (at_+1) (by omega),ha (at_+2) (by omega)]
    rw[Array.toList_push,he]
    refine⟨by simp,fun p hp _=>⟨_,rfl,?_⟩⟩
    obtain rfl:p=at_:=by omega
    rfl
   intro x hx
   simp only[Array.toList_push,List.mem_append,List.mem_singleton]at hx
   rcases hx with hx | rfl
   ·obtain⟨p,p1,p2,p3,p4⟩:=h2 x hx
    exact⟨p,p1,by omega,p3,p4⟩
   ·exact⟨at_,rfl,by omega,hq,rfl⟩
 ·have hj:es[j]?=some e:=by simpa using he
  refine⟨.map (es.modify j fun e=>{ e with key:=key3 (nth data at_) (nth data (at_+1)) (nth data (at_+2)),val:=.int .i64 (at_:Int) }) clock,?_,?_⟩
  ·simp[Instr.mapUpdate,hu,MapKept.run_getObj_map h1,rc,hf,hj,hk,rs_,MapKept.run_setObj_map _ h1,Result.andThen]
  ·refine⟨_,_,Array.getElem?_setIfInBounds_self_of_lt hlt,?_,fun ha=>?_⟩
   rotate_left
   ·have hjl:j<es.size:=(Array.getElem?_eq_some_iff.1 hj).1
    have hl1:es.size≤1:=by have:=(h5 ha).1;simpa using this
    obtain rfl:j=0:=by omega
    have hs1:es.size=1:=by omega
    obtain⟨x,hx⟩:∃ x,es.toList=[x]:=List.length_eq_one_iff.1 (by simpa using hs1)
    obtain rfl:es=#[x]:=by rw[←hx]
    refine⟨by simp,fun p hp _=>⟨_,by simp[Array.modify,Array.modifyM];rfl,?_⟩⟩
    obtain rfl:p=at_:=by omega
    rfl
   intro x hx
   rcases MapFrom.mem_modify hx with hx | ⟨e',_,rfl⟩
   ·obtain⟨p,p1,p2,p3,p4⟩:=h2 x hx
    exact⟨p,p1,by omega,p3,p4⟩
   ·exact⟨at_,rfl,by omega,hq,rfl⟩
structure De(B bw bm g1 g2 cap:Nat)(data:List Nat)(ao:Option Addr)(w:World)(bs:List Bool)(at_:Nat):Prop where
 wx:Wx B bw 194 [.slice ao data.length cap,.int .i64 at_,.map (some bm),.slice (some ⟨g1,0,none⟩) 288 288,.slice (some ⟨g2,0,none⟩) 32 32] w bs
 dat:Dat w B ao data
 byt:∀ i,i<data.length→nth data i<256
 len:data.length≤1000000
 lc:data.length≤cap∧cap≤9223372036854775807
 hat:at_≤data.length
 st:Stood w bm data at_
 r1:CodeRow w g1 Fo.tabF
 r2:CodeRow w g2 Fo.tadF
 hbm:B≤bm
variable{B bw bm g1 g2 cap T:Nat}{data:List Nat}{ao:Option Addr}{bs:List Bool}{at_:Nat}{rest:List Value}
theorem Wx.below{w':World}(h:Wx B bw T rest w bs)(b:Below w.heap.size w w'):Wx B bw T rest w' bs:=by
 obtain⟨ov,out,used,⟨h1,h2,h3,h4⟩,h5⟩:=h
 exact⟨ov,out,used,⟨h1,h2,by rw[b.block _ (lt_of_block h3)];exact h3,owb h4 b⟩,h5⟩
theorem Stood.below{w':World}(h:Stood w bm data at_)(b:Below w.heap.size w w'):Stood w' bm data at_:=by
 obtain⟨es,clock,h1,h2⟩:=h
 exact⟨es,clock,by rw[b.block _ (lt_of_block h1)];exact h1,h2⟩
theorem CodeRow.below'{w':World}{g:Nat}{t:List (Nat × Nat)}(h:CodeRow w g t)(b:Below w.heap.size w w'):CodeRow w' g t:=by
 obtain⟨C,h1,h2⟩:=h
 exact⟨C,by rw[b.block _ (lt_of_block h1)];exact h1,h2⟩
theorem De.below{w':World}(h:De B bw bm g1 g2 cap data ao w bs at_)(b:Below w.heap.size w w'):De B bw bm g1 g2 cap data ao w' bs at_:=
 ⟨h.wx.below b,h.dat.below b,h.byt,h.len,h.lc,h.hat,h.st.below b,h.r1.below' b,h.r2.below' b,h.hbm⟩
theorem De.cells(h:De B bw bm g1 g2 cap data ao w bs at_):w.cell? ⟨bw,2,none⟩=some (.slice ao data.length cap)∧w.cell? ⟨bw,3,none⟩=some (.int .i64 at_)∧w.cell? ⟨bw,4,none⟩=some (.map (some bm))∧w.cell? ⟨bw,5,none⟩=some (.slice (some ⟨g1,0,none⟩) 288 288)∧w.cell? ⟨bw,6,none⟩=some (.slice (some ⟨g2,0,none⟩) 32 32)∧B≤bw∧bw<w.heap.size∧w.frozen? ⟨bw,3,none⟩=false:=by
 obtain⟨ov,out,used,hq,_⟩:=h.wx
 have:=hq.blk
 refine⟨?_,?_,?_,?_,?_,hq.hb,lt_of_block hq.blk,frb hq.blk⟩<;>(rw[ceb this];simp)
theorem Dat.at{l:List Nat}(h:Dat w B ao l)(h0:0<l.length):∃ b o,ao=some ⟨b,o,none⟩∧b<B∧∀ i,i<l.length→w.cell? ⟨b,o+i,none⟩=some (.int .u8 (nth l i:Nat)):=by
 obtain⟨b,o,h1,h2,_⟩:=h 0 h0
 refine⟨b,o,h1,h2,fun i hi=>?_⟩
 obtain⟨b',o',h1',_,h3⟩:=h i hi
 rw[h1]at h1'
 cases h1'
 exact h3
theorem hKo(h:De B bw bm g1 g2 cap data ao w bs at_) :
  Calls Tryz.prog 311 #[.pointer (some ⟨bw,0,none⟩)] w fun e w'=>e=.returned (.bool (decide (at_+3≤data.length)))∧∃ q,w'=w.drewN q:=by
 obtain⟨c2,c3,_⟩:=h.cells
 have b1:=h.len
 have b2:=h.hat
 have hd:decide ((3:Int)≤(data.length:Int)-at_)=decide (at_+3≤data.length):=by rw[decide_eq_decide];omega
 have HD:=hide hd
 clear hd
 go_enter Tryz.func311,Tryz.ntmps311
 go_wp2_with fail
 go_quiet (fail)
 go_wp2
 go_ret
 exact⟨by show Ending.returned (Value.bool (decide (3≤(data.length:Int)-at_)))=_;rw[HD.o],nq,rfl⟩
theorem ruaA(b o n c:Nat)(hn:3≤n)(W:World):(Instr.arrayAt 281 (.slice (some ⟨b,o,none⟩) n c)).run Tryz.prog W=.ok (.pointer (some ⟨b,o,none⟩)) W:=by
 have hu:(underlying 281).run Tryz.prog W=.ok (.array 3 5) W:=by kernel_rfl
 simp[Instr.arrayAt,hu,Result.andThen,show ¬ n<3 by omega]
theorem ko_(h:De B bw bm g1 g2 cap data ao w bs at_)(hk:at_+3≤data.length) :
  Calls Tryz.prog 312 #[.pointer (some ⟨bw,0,none⟩)] w fun e w'=>e=.returned (key3 (nth data at_) (nth data (at_+1)) (nth data (at_+2)))∧Below w.heap.size w w':=by
 obtain⟨c2,c3,_,_,_,hbw,hlt,_⟩:=h.cells
 obtain⟨b,o,rfl,hb,hc⟩:=h.dat.at (by omega)
 have b1:=h.len
 obtain⟨b2,b3⟩:=h.lc
 have d0:w.cell? ⟨b,o+at_,none⟩=some (.int .u8 (nth data at_:Nat)):=hc at_ (by omega)
 have d1:w.cell? ⟨b,o+at_+1,none⟩=some (.int .u8 (nth data (at_+1):Nat)):=hc (at_+1) (by omega)
 have d2:w.cell? ⟨b,o+at_+2,none⟩=some (.int .u8 (nth data (at_+2):Nat)):=hc (at_+2) (by omega)
 have haa:=ruaA b (o+at_) (data.length-at_) (cap-at_) (by omega)
 have hbl:b<w.heap.size:=by omega
 clear hc h
 go_enter Tryz.func312,Tryz.ntmps312
 go_wp2_with fail
 generalize hW:w.alloc _=w2
 have hbw2:Below w.heap.size w w2:=by rw[←hW];exact(Below.refl _ _).alloc (Nat.le_refl _) _
 have hblk:w2.heap[w.heap.size]?=some (.cells #[.int .u8 0,.int .u8 0,.int .u8 0] 281 (0,0)):=by rw[←hW];exact bln _ _
 have c2':=(hbw2.cell (p:=⟨bw,2,none⟩) hlt).trans c2
 have c3':=(hbw2.cell (p:=⟨bw,3,none⟩) hlt).trans c3
 have d0':=(hbw2.cell (p:=⟨b,o+at_,none⟩) hbl).trans d0
 have d1':=(hbw2.cell (p:=⟨b,o+at_+1,none⟩) hbl).trans d1
 have d2':=(hbw2.cell (p:=⟨b,o+at_+2,none⟩) hbl).trans d2
 have n0:w2.cell? ⟨w.heap.size,0,none⟩=some (.int .u8 0):=ceb hblk
 have n1:w2.cell? ⟨w.heap.size,1,none⟩=some (.int .u8 0):=ceb hblk
 have n2:w2.cell? ⟨w.heap.size,2,none⟩=some (.int .u8 0):=ceb hblk
 have f0:w2.frozen? ⟨w.heap.size,0,none⟩=false:=frb hblk
 have f1:w2.frozen? ⟨w.heap.size,1,none⟩=false:=frb hblk
 have f2:w2.frozen? ⟨w.heap.size,2,none⟩=false:=frb hblk
 generalize hS:w.heap.size=S at *
 have HB2:=hide hbw2
 have HBK:=hide hblk
 clear c2 c3 d0 d1 d2 hW hbw2 hblk
 have hfin:Hid ((((w2.setCell ⟨S,0,none⟩ (.int .u8 (nth data at_:Nat))).setCell ⟨S,1,none⟩ (.int .u8 (nth data (at_+1):Nat))).setCell ⟨S,2,none⟩ (.int .u8 (nth data (at_+2):Nat))).drew.heap[S]?=some (.cells #[.int .u8 (nth data at_:Nat),.int .u8 (nth data (at_+1):Nat),.int .u8 (nth data (at_+2):Nat)] 281 (0,0))):=by
  unfold Hid
  exact bsC _ (bsC _ (bsC _ HBK.o))
 go_region
 all_goals go_wp2
 refine bodyPost_ret (v:=key3 (nth data at_) (nth data (at_+1)) (nth data (at_+2))) ?_ rfl ⟨rfl,?_⟩
 ·exact results_cell_row Tryz.results312 _ _ S 281 _ _ _ rfl hfin.o Tryz.underlying281 rfl (by kernel_rfl)
 ·subst hS
  exact(((HB2.o.setCell (p:=⟨w.heap.size,0,none⟩) (Nat.le_refl _) _).setCell (p:=⟨w.heap.size,1,none⟩) (Nat.le_refl _) _).setCell (p:=⟨w.heap.size,2,none⟩) (Nat.le_refl _) _).drew
end
section
variable{w:World}{B bw bm g1 g2 cap T:Nat}{data:List Nat}{ao:Option Addr}{bs:List Bool}{at_:Nat}{rest:List Value}
theorem bedN{B:Nat}{a w:World}(h:Below B a w)(n:Nat):Below B a (w.drewN n):=⟨h.os,h.tape,h.output,h.size,h.block⟩
def MO(data:List Nat)(at_ l d:Nat):Prop:=(Alike data→0<at_→at_+3≤data.length→l=min 258 (data.length-at_)∧d=1)∧(l=0∨3≤l∧l≤258∧1≤d∧d≤32768∧d≤at_∧at_+l≤data.length∧∀ i,i<l→nth data (at_+i)=nth data (at_-d+i))
theorem hKi(h:De B bw bm g1 g2 cap data ao w bs at_)(v:Bool)(hv:decide (at_+3≤data.length)=v) :
  Calls Tryz.prog 311 #[.pointer (some ⟨bw,0,none⟩)] w fun e w'=>e=.returned (.bool v)∧∃ q,w'=w.drewN q:=by
 subst hv;exact hKo h
theorem mo(h:De B bw bm g1 g2 cap data ao w bs at_) :
  Calls Tryz.prog 263 #[.pointer (some ⟨bw,0,none⟩)] w fun e w'=>∃ l d:Nat,e=.returned (.tuple #[.int .i64 l,.int .i64 d])∧Below w.heap.size w w'∧MO data at_ l d:=by
 by_cases hk:at_+3≤data.length
 ·have H:=hide h
  clear h
  go_enter Tryz.func263,Tryz.ntmps263
  go_wp2_with (go_at_call 311;refine(hKi H.o true (decide_eq_true hk)).mono ?_;rintro e w1 ⟨rfl,q,rfl⟩)
  have hq:Below w.heap.size w (w.drewN q):=⟨rfl,rfl,rfl,Nat.le_refl _,fun _ _=>rfl⟩
  have H1:=hide (H.o.below hq)
  generalize hwq:w.drewN q=w1 at *
  clear hwq
  obtain⟨c2,c3,c4,_,_,hbw,hlt,_⟩:=H1.o.cells
  have HD:Hid (De B bw bm g1 g2 cap data ao w1.drew bs at_):=H1.o.below (Below.refl _ _).drew
  go_region_with (go_at_call 312;refine(ko_ HD.o hk).mono ?_;rintro e w2 ⟨rfl,b2⟩;have H2:=hide (HD.o.below b2);have hc4:=H2.o.cells.2.2.1;obtain⟨p,ok,hlk,hp,ha⟩:=H2.o.st.look H2.o.byt at_ hk;have HP:=hide hp;have HA:=hide ha;clear hp ha)
  all_goals clear hc4 hlk c2 c3 c4 HD H1
  all_goals have B2:Hid (Below w.heap.size w w2):=(hq.trans (Below.refl _ _).drew).trans (b2.mono hq.size)
  all_goals clear hq b2
  all_goals obtain⟨c2,c3,_,_,_,hbw,hlt,_⟩:=H2.o.cells
  all_goals obtain⟨b,o,rfl,hb,hdc⟩:=H2.o.dat.at (by omega)
  all_goals have hlen:=H2.o.len
  all_goals have HDC:=hide hdc
  all_goals clear hdc
  all_goals (
   cases ok
   ·clear HP
    go_wp2
    refine bodyPost_ret (v:=.tuple #[.int .i64 0,.int .i64 0]) (by simp[results,Tryz.results263,go_sem]) rfl ⟨0,0,rfl,B2.o,fun x1 x2 x3=>absurd (HA.o x1 x2 x3).1 (by simp),Or.inl rfl⟩
   ·obtain⟨p1,p2,e0,e1,e2⟩:=HP.o rfl
    have HE:=hide (And.intro e0 (And.intro e1 e2))
    clear e0 e1 e2 HP
    by_cases hf:32768<at_-p
    ·have hf':(32768:Int)<(at_:Int)-p:=by omega
     clear hf
     go_wp2
     refine bodyPost_ret (v:=.tuple #[.int .i64 0,.int .i64 0]) (by simp[results,Tryz.results263,go_sem]) rfl ⟨0,0,rfl,B2.o,fun x1 x2 x3=>absurd (HA.o x1 x2 x3).2 (by omega),Or.inl rfl⟩
    ·have hf':¬ (32768:Int)<(at_:Int)-p:=by omega
     go_wp2_with fail
     clear c2 c3
     go_loopw [2] (fun l wr=>∃ k:Nat,3≤k∧k≤258∧l=.int .i64 k∧at_+k≤data.length∧Hid (∀ i,i<k→nth data (at_+i)=nth data (p+i))∧Below w2.heap.size w2 wr) (fun l _=>258-(intOf l).toNat)
     case atStart =>
      refine⟨3,by omega,by omega,rfl,hk,?_,Below.refl _ _⟩
      intro i hi
      obtain⟨e0,e1,e2⟩:=HE.o
      match i,hi with
      |0,_=>exact e0.symm
      |1,_=>exact e1.symm
      |2,_=>exact e2.symm
     case round =>
      obtain⟨k,hk3,hk258,rfl,hal,HM,bl⟩:=hrel
      have H3:=hide (H2.o.below bl)
      have c2:=H3.o.cells.1
      have c3:=H3.o.cells.2.1
      have hkI:(k:Int)≤258:=by omega
      have hFin:Hid ((Alike data→k=min 258 (data.length-at_))→Below w.heap.size w wr∧MO data at_ k (at_-p)):=by
       intro hmin
       refine⟨B2.o.trans (bl.mono B2.o.size),fun x1 x2 x3=>⟨hmin x1,by have:=(HA.o x1 x2 x3).2;omega⟩,Or.inr ⟨hk3,hk258,by omega,by omega,by omega,hal,fun i hi=>?_⟩⟩
       rw[show at_-(at_-p)+i=p+i by omega]
       exact HM.o i hi
      by_cases t1:k<258
      ·have t1':decide ((k:Int)<258)=true:=by simp;omega
       by_cases t2:at_+k<data.length
       ·have t2':decide ((at_:Int)+k<data.length)=true:=by simp;omega
        have d1:=(bl.cell (p:=⟨b,o+(at_+k),none⟩) (by show b<_;omega)).trans (HDC.o (at_+k) t2)
        have d2:=(bl.cell (p:=⟨b,o+(p+k),none⟩) (by show b<_;omega)).trans (HDC.o (p+k) (by omega))
        have hb2:=H2.o.lc
        by_cases t3:nth data (at_+k)=nth data (p+k)
        ·have HT:Hid (∀ i,i<k+1→nth data (at_+i)=nth data (p+i)):=by
          intro i hi
          by_cases c:i=k
          ·subst c;exact t3
          ·exact HM.o i (by omega)
         have t3':((nth data (at_+k):Int)==(nth data (p+k):Int))=true:=by simp[t3]
         generalize nth data (at_+k)=X at d1 t3'
         generalize nth data (p+k)=Y at d2 t3'
         clear t3
         go_wp2_with fail
         go_quiet (fail)
         go_wp2
         go_roundw
         case rel=>exact⟨k+1,by omega,by omega,by go_num,by omega,HT,bedN bl _⟩
         case measure=>simp[intOf];omega
        ·have t3':((nth data (at_+k):Int)==(nth data (p+k):Int))=false:=by simp;omega
         have HN:Hid (Alike data→k=min 258 (data.length-at_)):=fun x=>absurd ((x (at_+k) t2).trans (x (p+k) (by omega)).symm) t3
         generalize nth data (at_+k)=X at d1 t3'
         generalize nth data (p+k)=Y at d2 t3'
         clear t3
         go_wp2_with fail
         go_quiet (fail)
         go_wp2_with fail
         go_quiet (fail)
         go_wp2
         rw[show(at_:Int)-p=((at_-p:Nat):Int)by omega]
         refine bodyPost_ret (v:=.tuple #[.int .i64 k,.int .i64 (at_-p:Nat)]) (by simp[results,Tryz.results263,go_sem]) rfl ⟨k,at_-p,rfl,bedN (bedN (hFin.o HN.o).1 _) _,(hFin.o HN.o).2⟩
       ·have t2':decide ((at_:Int)+k<data.length)=false:=by simp;omega
        have HN:Hid (Alike data→k=min 258 (data.length-at_)):=fun _=>by omega
        go_wp2_with fail
        go_quiet (fail)
        go_wp2_with fail
        go_quiet (fail)
        go_wp2
        rw[show(at_:Int)-p=((at_-p:Nat):Int)by omega]
        refine bodyPost_ret (v:=.tuple #[.int .i64 k,.int .i64 (at_-p:Nat)]) (by simp[results,Tryz.results263,go_sem]) rfl ⟨k,at_-p,rfl,bedN (bedN (hFin.o HN.o).1 _) _,(hFin.o HN.o).2⟩
      ·have t1':decide ((k:Int)<258)=false:=by simp;omega
       have HN:Hid (Alike data→k=min 258 (data.length-at_)):=fun _=>by omega
       go_wp2_with fail
       go_quiet (fail)
       go_wp2_with fail
       go_quiet (fail)
       go_wp2
       rw[show(at_:Int)-p=((at_-p:Nat):Int)by omega]
       refine bodyPost_ret (v:=.tuple #[.int .i64 k,.int .i64 (at_-p:Nat)]) (by simp[results,Tryz.results263,go_sem]) rfl ⟨k,at_-p,rfl,bedN (bedN (hFin.o HN.o).1 _) _,(hFin.o HN.o).2⟩)
 ·have H:=hide h
  clear h
  go_enter Tryz.func263,Tryz.ntmps263
  go_wp2_with (go_at_call 311;refine(hKi H.o false (decide_eq_false hk)).mono ?_;rintro e w1 ⟨rfl,q,rfl⟩)
  refine bodyPost_ret (v:=.tuple #[.int .i64 0,.int .i64 0]) (by simp[results,Tryz.results263,go_sem]) rfl ⟨0,0,rfl,⟨rfl,rfl,rfl,Nat.le_refl _,fun _ _=>rfl⟩,fun _ _ x3=>absurd x3 hk,Or.inl rfl⟩
end
section
variable{w:World}{B cap:Nat}{ao:Option Addr}
namespace Fo
def sameGo(l:List Nat):Nat→Nat→Nat
 |0,n=>n
 |f+1,n=>if n<l.length∧n<128∧nth l n=nth l 0 then sameGo l f (n+1)else n
def sameN(l:List Nat):Nat:=sameGo l 128 1
def mixGo(l:List Nat):Nat→Nat→Nat
 |0,n=>n
 |f+1,n=>if n<l.length∧n<128∧¬ (n+1<l.length∧nth l n=nth l (n+1))then mixGo l f (n+1)else n
def mixN(l:List Nat):Nat:=mixGo l 129 0
def runGo:Nat→List Nat→List Nat
 |0,_=>[128]
 |f+1,l=>if l.length=0 then[128]else if 1<sameN l then(257-sameN l)::nth l 0::runGo f (l.drop (sameN l))else(mixN l-1)::(l.take (mixN l)++runGo f (l.drop (mixN l)))
def encRun(l:List Nat):List Nat:=runGo (l.length+1) l
theorem encRun_aab:encRun [97,97,98]=[255,97,0,98,128]:=by decide +kernel
theorem saGl(l:List Nat):∀ f n,n≤128→n≤l.length→n≤sameGo l f n∧sameGo l f n≤128∧sameGo l f n≤l.length
 |0,n,h1,h2=>⟨Nat.le_refl _,h1,h2⟩
 |f+1,n,h1,h2=>by
  unfold sameGo
  split
  ·rename_i c
   have:=saGl l f (n+1) (by omega) (by omega)
   omega
  ·exact⟨Nat.le_refl _,h1,h2⟩
theorem sGs(l:List Nat):∀ f n,(∀ i,i<n→nth l i=nth l 0)→∀ i,i<sameGo l f n→nth l i=nth l 0
 |0,n,h=>h
 |f+1,n,h=>by
  unfold sameGo
  split
  ·rename_i c
   exact sGs l f (n+1) (fun i hi=>by
    by_cases e:i=n
    ·subst e;exact c.2.2
    ·exact h i (by omega))
  ·exact h
theorem mGl(l:List Nat):∀ f n,n≤128→n≤l.length→n≤mixGo l f n∧mixGo l f n≤128∧mixGo l f n≤l.length
 |0,n,h1,h2=>⟨Nat.le_refl _,h1,h2⟩
 |f+1,n,h1,h2=>by
  unfold mixGo
  split
  ·rename_i c
   have:=mGl l f (n+1) (by omega) (by omega)
   omega
  ·exact⟨Nat.le_refl _,h1,h2⟩
theorem sameN_le(l:List Nat)(h:0<l.length):1≤sameN l∧sameN l≤128∧sameN l≤l.length:=saGl l 128 1 (by omega) h
theorem mixN_le(l:List Nat)(h:0<l.length)(hs:¬ 1<sameN l):1≤mixN l∧mixN l≤128∧mixN l≤l.length:=by
 have h1:¬ (0+1<l.length∧nth l 0=nth l (0+1)):=by
  rintro⟨a,b⟩
  apply hs
  unfold sameN
  rw[sameGo,if_pos ⟨by omega,by omega,b.symm⟩]
  have:=saGl l 127 (1+1) (by omega) (by omega)
  omega
 unfold mixN
 rw[mixGo,if_pos ⟨h,by omega,h1⟩]
 have:=mGl l 128 (0+1) (by omega) (by omega)
 omega
end Fo
def pO(l:List Nat)(n:Nat):Prop:=n+1<l.length∧nth l n=nth l (n+1)
theorem pAy{l:List Nat}(hd:Dat w B ao l)(hl:l.length≤1000000)(n:Nat)(hp:pO l n) :
  Calls Tryz.prog 201 #[.slice ao l.length cap,.int .i64 n] w fun e w'=>e=.returned (.bool true)∧∃ q,w'=w.drewN q:=by
 obtain⟨h1,h2⟩:=hp
 obtain⟨b,o,rfl,_,hc⟩:=hd.at (by omega)
 have d1:=hc n (by omega)
 have d2:=hc (n+1) h1
 rw[h2]at d1
 have t1:decide ((n:Int)+1<l.length)=true:=by simp;omega
 generalize nth l (n+1)=X at *
 clear hc hd h2
 go_enter Tryz.func201,Tryz.ntmps201
 go_wp2_with fail
 go_quiet (fail)
 go_wp2
 go_ret
 exact⟨rfl,nq,rfl⟩
theorem pAn{l:List Nat}(hd:Dat w B ao l)(hl:l.length≤1000000)(n:Nat)(hn:n<l.length)(hp:¬ pO l n) :
  Calls Tryz.prog 201 #[.slice ao l.length cap,.int .i64 n] w fun e w'=>e=.returned (.bool false)∧∃ q,w'=w.drewN q:=by
 by_cases h1:n+1<l.length
 ·have h2:nth l n≠nth l (n+1):=fun e=>hp ⟨h1,e⟩
  obtain⟨b,o,rfl,_,hc⟩:=hd.at (by omega)
  have d1:=hc n (by omega)
  have d2:=hc (n+1) h1
  have t1:decide ((n:Int)+1<l.length)=true:=by simp;omega
  have t2:((nth l n:Int)==(nth l (n+1):Int))=false:=by simp;omega
  generalize nth l (n+1)=X at *
  generalize nth l n=Y at *
  clear hc hd h2 hp
  go_enter Tryz.func201,Tryz.ntmps201
  go_wp2_with fail
  go_quiet (fail)
  go_wp2
  go_ret
  exact⟨rfl,nq,rfl⟩
 ·have t1:decide ((n:Int)+1<l.length)=false:=by simp;omega
  go_enter Tryz.func201,Tryz.ntmps201
  go_wp2_with fail
  go_quiet (fail)
  go_wp2
  go_ret
  exact⟨rfl,nq,rfl⟩
theorem saGo{l:List Nat}{k:Nat}(hk:k≤128)(h:k<l.length∧k<128∧nth l k=nth l 0):Fo.sameGo l (129-k) k=Fo.sameGo l (129-(k+1)) (k+1):=by
 rw[show 129-k=(129-(k+1))+1 by omega,Fo.sameGo,if_pos h]
theorem sGo{l:List Nat}{k:Nat}(hk:k≤128)(h:¬ (k<l.length∧k<128∧nth l k=nth l 0)):Fo.sameGo l (129-k) k=k:=by
 rw[show 129-k=(128-k)+1 by omega,Fo.sameGo,if_neg h]
theorem miGo{l:List Nat}{k:Nat}(hk:k≤128)(h:k<l.length∧k<128∧¬ pO l k):Fo.mixGo l (129-k) k=Fo.mixGo l (129-(k+1)) (k+1):=by
 unfold pO at h
 rw[show 129-k=(129-(k+1))+1 by omega,Fo.mixGo,if_pos h]
theorem mGo{l:List Nat}{k:Nat}(hk:k≤128)(h:¬ (k<l.length∧k<128∧¬ pO l k)):Fo.mixGo l (129-k) k=k:=by
 unfold pO at h
 rw[show 129-k=(128-k)+1 by omega,Fo.mixGo,if_neg h]
theorem saAo{l:List Nat}(hd:Dat w B ao l)(hl:l.length≤1000000)(hB:B≤w.heap.size)(h0:0<l.length) :
  Calls Tryz.prog 145 #[.slice ao l.length cap] w fun e w'=>e=.returned (.int .i64 (Fo.sameN l:Nat))∧Below w.heap.size w w':=by
 have HR:Hid (Fo.sameGo l (129-1) 1=Fo.sameN l):=hide rfl
 generalize Fo.sameN l=R at *
 obtain⟨b,o,rfl,hbB,hc⟩:=hd.at h0
 have HC:=hide hc
 clear hc hd
 go_enter Tryz.func145,Tryz.ntmps145
 go_wp2
 go_loopw [3] (fun n wr=>∃ k:Nat,1≤k∧k≤128∧k≤l.length∧n=.int .i64 k∧Hid (Fo.sameGo l (129-k) k=R)∧Below w.heap.size w wr) (fun n _=>128-(intOf n).toNat)
 case atStart=>exact⟨1,by omega,by omega,h0,rfl,HR,Below.refl _ _⟩
 clear HR
 case round =>
  obtain⟨k,k1,k2,k3,rfl,HK,bl⟩:=hrel
  by_cases t1:k<l.length
  ·have t1':decide ((k:Int)<l.length)=true:=by simp;omega
   by_cases t2:k<128
   ·have t2':decide ((k:Int)<128)=true:=by simp;omega
    have d1:=(bl.cell (p:=⟨b,o+k,none⟩) (by show b<_;omega)).trans (HC.o k t1)
    have d2:wr.cell? ⟨b,o,none⟩=some (.int .u8 (nth l 0:Nat)):=(bl.cell (p:=⟨b,o,none⟩) (by show b<_;omega)).trans (HC.o 0 h0)
    by_cases t3:nth l k=nth l 0
    ·have HN:=hide ((saGo k2 ⟨t1,t2,t3⟩).symm.trans HK.o)
     have t3':((nth l k:Int)==(nth l 0:Int))=true:=by simp[t3]
     generalize nth l k=X at d1 t3'
     generalize nth l 0=Y at d2 t3'
     clear t3 HK
     go_wp2_with fail
     go_quiet (fail)
     go_wp2
     go_roundw
     case rel=>exact⟨k+1,by omega,by omega,by omega,by go_num,HN,bedN bl _⟩
     case measure=>simp[intOf];omega
    ·have HN:=hide ((sGo k2 (fun c=>t3 c.2.2)).symm.trans HK.o)
     have t3':((nth l k:Int)==(nth l 0:Int))=false:=by simp;omega
     generalize nth l k=X at d1 t3'
     generalize nth l 0=Y at d2 t3'
     clear t3 HK
     go_wp2_with fail
     go_quiet (fail)
     go_wp2
     go_ret
     exact⟨ri (by rw[HN.o]),bedN bl _⟩
   ·have HN:=hide ((sGo k2 (fun c=>t2 c.2.1)).symm.trans HK.o)
    have t2':decide ((k:Int)<128)=false:=by simp;omega
    clear HK
    go_wp2_with fail
    go_quiet (fail)
    go_wp2
    go_ret
    exact⟨ri (by rw[HN.o]),bedN bl _⟩
  ·have HN:=hide ((sGo k2 (fun c=>t1 c.1)).symm.trans HK.o)
   have t1':decide ((k:Int)<l.length)=false:=by simp;omega
   clear HK
   go_wp2_with fail
   go_quiet (fail)
   go_wp2
   go_ret
   exact⟨ri (by rw[HN.o]),bedN bl _⟩
theorem mAo{l:List Nat}(hd:Dat w B ao l)(hl:l.length≤1000000)(hB:B≤w.heap.size) :
  Calls Tryz.prog 146 #[.slice ao l.length cap] w fun e w'=>e=.returned (.int .i64 (Fo.mixN l:Nat))∧Below w.heap.size w w':=by
 have HR:Hid (Fo.mixGo l (129-0) 0=Fo.mixN l):=hide rfl
 generalize Fo.mixN l=R at *
 have HD:=hide hd
 clear hd
 go_enter Tryz.func146,Tryz.ntmps146
 go_wp2
 go_loopw [3] (fun n wr=>∃ k:Nat,k≤128∧k≤l.length∧n=.int .i64 k∧Hid (Fo.mixGo l (129-k) k=R)∧Below w.heap.size w wr) (fun n _=>128-(intOf n).toNat)
 case atStart=>exact⟨0,by omega,by omega,rfl,HR,Below.refl _ _⟩
 clear HR
 case round =>
  obtain⟨k,k2,k3,rfl,HK,bl⟩:=hrel
  have HD2:=hide (HD.o.below bl)
  by_cases t1:k<l.length
  ·have t1':(k:Int)<l.length:=by omega
   by_cases t2:k<128
   ·have t2':(k:Int)<128:=by omega
    by_cases t3:pO l k
    ·have HN:=hide ((mGo k2 (fun c=>c.2.2 t3)).symm.trans HK.o)
     have T3:=hide t3
     clear t3 HK
     go_wp2_with fail
     refine(pAy HD2.o hl k T3.o).mono ?_
     rintro e w1 ⟨rfl,q,rfl⟩
     go_wp2
     go_ret
     exact⟨ri (by rw[HN.o]),bedN bl _⟩
    ·have HN:=hide ((miGo k2 ⟨t1,t2,t3⟩).symm.trans HK.o)
     have T3:=hide t3
     clear t3 HK
     go_wp2_with fail
     refine(pAn HD2.o hl k t1 T3.o).mono ?_
     rintro e w1 ⟨rfl,q,rfl⟩
     go_wp2
     go_roundw
     case rel=>exact⟨k+1,by omega,by omega,by go_num,HN,bedN bl _⟩
     case measure=>simp[intOf];omega
   ·have HN:=hide ((mGo k2 (fun c=>t2 c.2.1)).symm.trans HK.o)
    have t2':¬ (k:Int)<128:=by omega
    clear HK
    go_wp2
    go_ret
    exact⟨ri (by rw[HN.o]),bl⟩
  ·have HN:=hide ((mGo k2 (fun c=>t1 c.1)).symm.trans HK.o)
   have t1':¬ (k:Int)<l.length:=by omega
   clear HK
   go_wp2
   go_ret
   exact⟨ri (by rw[HN.o]),bl⟩
end
end Go.Proofs.YtgkljcmjnphpeaaGreatDoor
