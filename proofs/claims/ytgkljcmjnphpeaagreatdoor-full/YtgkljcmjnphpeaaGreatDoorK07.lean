import Derived.Test.YtgkljcmjnphpeaaGreatDoorK06
import Derived.Test.YtgkljcmjnphpeaaGreatDoorKSh
set_option linter.unusedVariables false
set_option linter.unusedSimpArgs false
set_option maxHeartbeats 2000000
set_option maxRecDepth 100000
namespace Go.Proofs.YtgkljcmjnphpeaaGreatDoor
open Go.RowKit
section
structure Ar(w0:World)(B bs:Nat)(ao:Option Addr)(cap:Nat)(data:List Nat)(x2 x3 x4:Value)(K k:Nat)(w:World)(q:List Nat)(iv:Value)(vs:List Value)(Vs:List (VT k))(kv:Value)(ks:List (List Nat)):Prop where
 sc:Sc B bs ao cap data x2 x3 x4 w q
 only:Only bs w0 w
 lt:bs<w0.heap.size
 rb:w.heap[w0.heap.size]?=some (.cells zero7 67 (0,0))
 vb:w.heap[w0.heap.size+1]?=some (.cells #[.int .i64 (K:Int),.int .i64 0,.int .i64 0,.string { data:=#[] },iv,kv,.slice none 0 0] 67 (0,0))
 own:w.ownsRow (w0.heap.size+2) 67 7 iv vs.length (vs.flatMap cellsOf)
 ownk:w.ownsRow (w0.heap.size+2) 9 1 kv ks.length (ks.map fun s=>.string (strN s))
 len:vs.length=Vs.length
 ch:∀(i:Nat) (x:Value) (y:VT k),vs[i]?=some x→Vs[i]?=some y→VIn (fun g=>w0.heap.size+2≤g∧iv.ownBlock≠some g∧kv.ownBlock≠some g) k w x y
 few:vs.length+q.length≤200000
 fewk:ks.length+q.length≤200000
variable{w0:World}{B bs cap K k:Nat}{ao:Option Addr}{data:List Nat}{x2 x3 x4:Value}{w w':World}{q:List Nat}{iv kv:Value}{vs:List Value}{Vs:List (VT k)}{ks:List (List Nat)}
theorem Ar.step(h:Ar w0 B bs ao cap data x2 x3 x4 K k w q iv vs Vs kv ks){q':List Nat}(hs:Sc B bs ao cap data x2 x3 x4 w' q')(ko:Only bs w w')(hq:q'.length≤q.length):Ar w0 B bs ao cap data x2 x3 x4 K k w' q' iv vs Vs kv ks:=by
 have hlt:=h.lt
 have hb:∀ g,w0.heap.size≤g→g<w.heap.size→w'.heap[g]?=w.heap[g]?:=fun g hg hg2=>ko.block g hg2 (by omega)
 refine⟨hs,h.only.trans ko,h.lt,?_,?_,owo h.own ko (by omega),owo h.ownk ko (by omega),h.len,fun i x y hx hy=>?_,by have:=h.few;omega,by have:=h.fewk;omega⟩
 ·rw[hb _ (Nat.le_refl _) (lt_of_block h.rb)];exact h.rb
 ·rw[hb _ (by omega) (lt_of_block h.vb)];exact h.vb
 ·exact VIn.keep k (h.ch i x y hx hy) (fun g hg hg2=>hb g (by omega) hg2)
theorem Ar.below(h:Ar w0 B bs ao cap data x2 x3 x4 K k w q iv vs Vs kv ks)(b:Below w.heap.size w w'):Ar w0 B bs ao cap data x2 x3 x4 K k w' q iv vs Vs kv ks:=
 h.step (h.sc.other b) (.of_below b) (Nat.le_refl _)
theorem Ar.drew(h:Ar w0 B bs ao cap data x2 x3 x4 K k w q iv vs Vs kv ks):Ar w0 B bs ao cap data x2 x3 x4 K k w.drew q iv vs Vs kv ks:=h.below (Below.refl _ _).drew
theorem Ar.alloc(h:Ar w0 B bs ao cap data x2 x3 x4 K k w q iv vs Vs kv ks)(o:Obj):Ar w0 B bs ao cap data x2 x3 x4 K k (w.alloc o) q iv vs Vs kv ks:=h.below ((Below.refl _ _).alloc (Nat.le_refl _) o)
theorem Ar.val(h:Ar w0 B bs ao cap data x2 x3 x4 K k w q iv vs Vs kv ks):VIn (fun g=>w0.heap.size+2≤g) (k+1) w (.agg #[.int .i64 (K:Int),.int .i64 0,.int .i64 0,.string { data:=#[] },iv,kv,.slice none 0 0]) (⟨K,0,0,[],Vs,ks,[]⟩:Node (VT k)):=
 ⟨iv,kv,.slice none 0 0,vs,rfl,h.len,RowIn.of h.own (fun g hg=>(h.own.lt g hg).1),fun i x y hx hy=>VIn.mono k (h.ch i x y hx hy) (fun g hg _=>hg.1),RowIn.of h.ownk (fun g hg=>(h.ownk.lt g hg).1),RowIn.nil _ _ _ _⟩
theorem Ar.item(h:Ar w0 B bs ao cap data x2 x3 x4 K k w q iv vs Vs kv ks){x:Value}{y:VT k}{S:Nat}(hS1:∀ g,iv.ownBlock=some g→g<S)(hS2:∀ g,kv.ownBlock=some g→g<S)(hS3:w0.heap.size+2≤S)(hx:VIn (fun g=>S≤g) k w x y){iv':Value}
  (hown:w'.ownsRow (w0.heap.size+2) 67 7 iv' (vs.length+1) (vs.flatMap cellsOf++cellsOf x)) (hg:w.grownBy w' iv.ownBlock) (hw:∀ g,iv'.ownBlock=some g→iv.ownBlock=some g∨w.heap.size≤g) (hfew:vs.length+1+q.length≤200000) :
  Ar w0 B bs ao cap data x2 x3 x4 K k (w'.setCell ⟨w0.heap.size+1,4,none⟩ iv') q iv' (vs++[x]) (Vs++[y]) kv ks:=by
 have hlt:=h.lt
 have hsz:=h.only.size
 have hvb:=lt_of_block h.vb
 have hBb:=h.sc.hb
 have hiv:∀ g,iv.ownBlock=some g→w0.heap.size+2≤g∧g<w.heap.size:=h.own.lt
 have hkv:∀ g,kv.ownBlock=some g→w0.heap.size+2≤g∧g<w.heap.size:=h.ownk.lt
 have hoth:∀ g,g<w.heap.size→iv.ownBlock≠some g→g≠w0.heap.size+1→(w'.setCell ⟨w0.heap.size+1,4,none⟩ iv').heap[g]?=w.heap[g]?:=fun g h1 h2 h3=>by
  rw[bsCn _ h3,hg.block g h1 (fun e=>h2 e.symm)]
 have hlow:∀ g,g<w0.heap.size+1→(w'.setCell ⟨w0.heap.size+1,4,none⟩ iv').heap[g]?=w.heap[g]?:=fun g h1=>hoth g (by omega) (fun e=>by have:=hiv g e;omega) (by omega)
 have hvb':w'.heap[w0.heap.size+1]?=some (.cells #[.int .i64 (K:Int),.int .i64 0,.int .i64 0,.string { data:=#[] },iv,kv,.slice none 0 0] 67 (0,0)):=by
  rw[hg.block _ hvb (fun e=>by have:=hiv _ e.symm;omega)];exact h.vb
 refine⟨⟨h.sc.hb,by rw[hlow _ (by omega)];exact h.sc.blk,h.sc.dat.other (fun g hg=>hlow g (by omega)),h.sc.byt,h.sc.len,h.sc.lc,h.sc.le,h.sc.suf,h.sc.ad⟩,?_,h.lt,by rw[hlow _ (by omega)];exact h.rb,?_,?_,?_,by rw[List.length_append,List.length_append,h.len];rfl,?_,by rw[List.length_append];exact hfew,h.fewk⟩
 ·exact⟨hg.os.trans h.only.os,hg.tape.trans h.only.tape,hg.output.trans h.only.output,by have:=hg.size;simp[World.setCell];omega,fun g h1 h2=>(hlow g (by omega)).trans (h.only.block g h1 h2)⟩
 ·rw[bsC _ hvb'];rfl
 ·rw[List.length_append,List.flatMap_append]
  have:=ownsRow_setCell_other (a:=⟨w0.heap.size+1,4,none⟩) hown (fun e=>absurd (hown.lt (w0.heap.size+1) e).1 (by omega)) iv'
  simpa using this
 ·have:=h.ownk.kept hg (by
   cases hk:kv.ownBlock with
   |none=>exact Or.inl rfl
   |some g =>
    refine Or.inr (fun e=>?_)
    exact oa_ h.own h.ownk (by decide) g e.symm hk)
  exact ownsRow_setCell_other this (fun e=>absurd (this.lt (w0.heap.size+1) e).1 (by omega)) iv'
 ·intro i x2 y2 hx2 hy2
  have old:VIn (fun g=>w0.heap.size+2≤g∧iv.ownBlock≠some g∧kv.ownBlock≠some g∧iv'.ownBlock≠some g) k w x2 y2:=by
   rcases Nat.lt_or_ge i vs.length with c | c
   ·rw[List.getElem?_append_left c]at hx2
    rw[List.getElem?_append_left (by rw[←h.len];exact c)]at hy2
    refine VIn.mono k (h.ch i x2 y2 hx2 hy2) (fun g h1 h2=>⟨h1.1,h1.2.1,h1.2.2,fun e=>?_⟩)
    rcases hw g e with c2 | c2
    ·exact h1.2.1 c2
    ·omega
   ·rw[List.getElem?_append_right c]at hx2
    rw[List.getElem?_append_right (by rw[←h.len];exact c)]at hy2
    rw[←h.len]at hy2
    obtain⟨rfl,rfl⟩:x=x2∧y=y2:=by
     match hj:i-vs.length,hx2,hy2 with
     |0,hx2,hy2=>exact⟨by simpa using hx2,by simpa using hy2⟩
     |j+1,hx2,hy2=>simp at hx2
    refine VIn.mono k hx (fun g h1 h2=>⟨by omega,fun e=>?_,fun e=>?_,fun e=>?_⟩)
    ·have:=hS1 g e;omega
    ·have:=hS2 g e;omega
    ·rcases hw g e with c2 | c2
     ·have:=hS1 g c2;omega
     ·omega
  refine VIn.mono k (VIn.keep k old (fun g h1 h2=>hoth g h2 h1.2.1 (by omega))) (fun g h1 _=>⟨h1.1,h1.2.2.2,h1.2.2.1⟩)
end
section
variable{B bs:Nat}{w w':World}
structure ErrW(B:Nat)(w:World):Prop where
 syn:∃ ev,w.cell? ⟨5,0,none⟩=some ev∧(ev=.nilIface∨∃ te pe,ev=.iface te pe)
 rng:∃ ev,w.cell? ⟨6,0,none⟩=some ev∧(ev=.nilIface∨∃ te pe,ev=.iface te pe)
 mx:∃ m,w.cell? ⟨2,0,none⟩=some (.int .i64 m)
 ls : 5<B
 lr : 6<B
 lm : 2<B
theorem ErrW.only(h:ErrW B w)(hb:B≤bs)(hw:B≤w.heap.size)(k:Only bs w w'):ErrW B w':=by
 have h1:=h.ls
 have h2:=h.lr
 have h3:=h.lm
 refine⟨?_,?_,?_,h.ls,h.lr,h.lm⟩
 ·obtain⟨ev,e1,e2⟩:=h.syn
  exact⟨ev,by rw[World.cell?_of_block (w:=w) (k.block _ (Nat.lt_of_lt_of_le h1 hw) (Nat.ne_of_lt (Nat.lt_of_lt_of_le h1 hb)))];exact e1,e2⟩
 ·obtain⟨ev,e1,e2⟩:=h.rng
  exact⟨ev,by rw[World.cell?_of_block (w:=w) (k.block _ (Nat.lt_of_lt_of_le h2 hw) (Nat.ne_of_lt (Nat.lt_of_lt_of_le h2 hb)))];exact e1,e2⟩
 ·obtain⟨m,e1⟩:=h.mx
  exact⟨m,by rw[World.cell?_of_block (w:=w) (k.block _ (Nat.lt_of_lt_of_le h3 hw) (Nat.ne_of_lt (Nat.lt_of_lt_of_le h3 hb)))];exact e1⟩
theorem ErrW.below(h:ErrW B w)(hw:B≤w.heap.size)(k:Below w.heap.size w w'):ErrW B w':=h.only (bs:=w.heap.size) hw hw (.of_below k)
def stepD(n b:Nat):Nat:=10*n+(b-48)
theorem ps_:∀(u:List UInt8) (acc:Nat),(acc+1)*10^u.length≤10000000000000000000→Lib.parseUint10 acc u=if(u.map UInt8.toNat).all Fo.isDig=true then .ok ((u.map UInt8.toNat).foldl stepD acc)else .syntax
 | [],acc,_=>by simp[Lib.parseUint10]
 |c::r,acc,h=>by
  have hp:0<10^r.length:=Nat.pow_pos (by decide)
  rw[List.length_cons,Nat.pow_succ]at h
  have h1:(acc+1)*10≤10000000000000000000:=by
   have:(acc+1)*10*1≤(acc+1)*10*10^r.length:=Nat.mul_le_mul_left _ hp
   have e:(acc+1)*(10^r.length*10)=(acc+1)*10*10^r.length:=by rw[Nat.mul_comm (10^r.length) 10,Nat.mul_assoc]
   omega
  simp only[Lib.parseUint10,List.map_cons,List.all_cons,List.foldl_cons]
  by_cases hd:48≤c.toNat∧c.toNat≤57
  ·rw[if_pos hd,if_neg (by omega),if_neg (by omega)]
   have hdig:Fo.isDig c.toNat=true:=by simp[Fo.isDig];omega
   have hst:(acc*10+(c.toNat-48)+1)*10^r.length≤10000000000000000000:=by
    have:(acc*10+(c.toNat-48)+1)*10^r.length≤(acc+1)*10*10^r.length:=Nat.mul_le_mul_right _ (by omega)
    have e:(acc+1)*(10^r.length*10)=(acc+1)*10*10^r.length:=by rw[Nat.mul_comm (10^r.length) 10,Nat.mul_assoc]
    omega
   rw[ps_ r _ hst,hdig]
   simp only[Bool.true_and]
   rw[show stepD acc c.toNat=acc*10+(c.toNat-48)by unfold stepD;omega]
  ·rw[if_neg hd]
   have hdig:Fo.isDig c.toNat=false:=by
    simp[Fo.isDig];omega
   rw[hdig];simp
theorem ats(u:List UInt8)(hl:(Fo.cutSign (u.map UInt8.toNat)).2.length≤19)(hb:(Fo.cutSign (u.map UInt8.toNat)).2.all Fo.isDig=true→Fo.numOf (Fo.cutSign (u.map UInt8.toNat)).2<9223372036854775808) :
  Lib.atoiAll u=match Fo.atoi (u.map UInt8.toNat)with | some v=>.ok v | none=>.syntax:=by
 cases u with
 |nil=>rfl
 |cons c r =>
  have key:∀ d:List UInt8,(d.map UInt8.toNat).length≤19→Lib.parseMag d=if d.map UInt8.toNat≠[]∧(d.map UInt8.toNat).all Fo.isDig=true then .ok (Fo.numOf (d.map UInt8.toNat))else .syntax:=by
   intro d hd
   unfold Lib.parseMag
   cases d with
   |nil=>rfl
   |cons x d =>
    rw[if_neg (by simp),ps_ (x::d) 0 (by
     rw[List.length_map]at hd
     have:10^(x::d).length≤10^19:=Nat.pow_le_pow_right (by decide) hd
     omega)]
    by_cases ha:((x::d).map UInt8.toNat).all Fo.isDig=true
    ·rw[if_pos ha,if_pos ⟨by simp,ha⟩];rfl
    ·rw[if_neg ha,if_neg (fun h=>ha h.2)]
  unfold Lib.atoiAll
  simp only[]
  have hcs:Fo.cutSign ((c::r).map UInt8.toNat)=if c.toNat=43∨c.toNat=45 then([c.toNat],r.map UInt8.toNat)else([],(c::r).map UInt8.toNat):=rfl
  unfold Fo.atoi
  by_cases hs:c.toNat=43∨c.toNat=45
  ·rw[if_pos hs]at hcs
   rw[hcs]at hl hb ⊢
   simp only[]at hl hb ⊢
   rw[if_pos hs,key r hl]
   by_cases ha:r.map UInt8.toNat≠[]∧(r.map UInt8.toNat).all Fo.isDig=true
   ·have hb2:=hb ha.2
    rw[if_pos ha,if_pos ha]
    simp only[]
    rw[if_neg (by omega),if_neg (by omega)]
    by_cases h45:c.toNat=45
    ·simp[h45]
    ·simp[h45]
   ·rw[if_neg ha,if_neg ha]
  ·rw[if_neg hs]at hcs
   rw[hcs]at hl hb ⊢
   simp only[]at hl hb ⊢
   rw[if_neg hs,key (c::r) hl]
   have h45:¬ c.toNat=45:=fun h=>hs (Or.inr h)
   by_cases ha:(c::r).map UInt8.toNat≠[]∧((c::r).map UInt8.toNat).all Fo.isDig=true
   ·have hb2:=hb ha.2
    rw[if_pos ha,if_pos ha]
    simp only[]
    rw[if_neg (by omega),if_neg (by omega)]
    simp[h45]
   ·rw[if_neg ha,if_neg ha]
def Small(l:List Nat):Prop:=(Fo.cutSign l).2.length≤19∧((Fo.cutSign l).2.all Fo.isDig=true→Fo.numOf (Fo.cutSign l).2<9223372036854775808)
def AI(l:List Nat)(n:Int)(ev:Value):Prop:=match Fo.atoi l with
 |some v=>n=v∧ev=.nilIface
 |none=>∃ te pe,ev=.iface te pe
def AT(l:List Nat)(w:World)(e:Ending)(w':World):Prop:=
 (∃ n ev,e=.returned (.tuple #[.int .i64 n,ev])∧(ev=.nilIface∨∃ te pe,ev=.iface te pe)∧(Small l→AI l n ev))∧Below w.heap.size w w'
theorem ato(he:ErrW B w)(S:ByteArray)(hS:S.size≤1000000):Calls Tryz.prog 328 #[.string S] w (AT (bl S) w):=by
 obtain⟨ev1,s1,s2⟩:=he.syn
 obtain⟨ev2,r1,r2⟩:=he.rng
 cases ha:Lib.atoiAll S.data.toList with
 |ok v =>
  refine(Tryz.strconv_Atoi_ok S (by omega) v ha w).mono ?_
  rintro e w' ⟨rfl,hw⟩
  refine⟨⟨v,.nilIface,rfl,Or.inl rfl,fun hs=>?_⟩,?_⟩
  ·have:=ats S.data.toList hs.1 hs.2
   rw[ha]at this
   unfold AI bl
   cases hf:Fo.atoi (S.data.toList.map UInt8.toNat)with
   |none=>rw[hf]at this;cases this
   |some v2=>rw[hf]at this;injection this with h3;exact⟨h3,rfl⟩
  ·rcases hw with rfl | ⟨t,rfl⟩
   ·exact Below.refl _ _
   ·exact Lib.bytesWorld_below _ _ _
 | «syntax» =>
  refine(Tryz.strconv_Atoi_syntax S (by omega) ha ev1 w s1 s2).mono ?_
  rintro e w' ⟨N,rfl,_,_,hb⟩
  refine⟨⟨0,_,rfl,Or.inr ⟨_,_,rfl⟩,fun hs=>?_⟩,hb⟩
  have:=ats S.data.toList hs.1 hs.2
  rw[ha]at this
  unfold AI bl
  cases hf:Fo.atoi (S.data.toList.map UInt8.toNat)with
  |none=>exact⟨_,_,rfl⟩
  |some v2=>rw[hf]at this;cases this
 |range =>
  refine(Tryz.strconv_Atoi_range S (by omega) ha ev2 w r1 r2).mono ?_
  rintro e w' ⟨N,rfl,_,_,hb⟩
  refine⟨⟨_,_,rfl,Or.inr ⟨_,_,rfl⟩,fun hs=>?_⟩,hb⟩
  have:=ats S.data.toList hs.1 hs.2
  rw[ha]at this
  unfold AI bl
  cases hf:Fo.atoi (S.data.toList.map UInt8.toNat)with
  |none=>exact⟨_,_,rfl⟩
  |some v2=>rw[hf]at this;cases this
theorem nOb:∀(l:List Nat) (n:Nat),(∀ x∈l,x<256)→l.all Fo.isDig=true→l.foldl stepD n+1≤(n+1)*10^l.length
 | [],n,_,_=>by simp
 |b::l,n,hb,ha=>by
  simp only[List.all_cons,Bool.and_eq_true]at ha
  have hd:48≤b∧b≤57:=by simpa[Fo.isDig]using ha.1
  have:=nOb l (stepD n b) (fun x hx=>hb x (by simp[hx])) ha.2
  rw[List.foldl_cons,List.length_cons,Nat.pow_succ]
  have h2:(stepD n b+1)*10^l.length≤(n+1)*10*10^l.length:=Nat.mul_le_mul_right _ (by unfold stepD;omega)
  have e:(n+1)*(10^l.length*10)=(n+1)*10*10^l.length:=by rw[Nat.mul_comm (10^l.length) 10,Nat.mul_assoc]
  omega
theorem cSm{l:List Nat}{x:Nat}(h:x∈(Fo.cutSign l).2):x∈l:=by
 unfold Fo.cutSign at h
 cases l with
 |nil=>exact h
 |cons b t =>
  simp only[]at h
  split at h
  ·exact List.mem_cons_of_mem _ h
  ·exact h
theorem so_4{l:List Nat}(hb:∀ x∈l,x<256)(hl:(Fo.cutSign l).2.length≤18):Small l:=by
 refine⟨by omega,fun ha=>?_⟩
 have h2:=nOb (Fo.cutSign l).2 0 (fun x hx=>hb x (cSm hx)) ha
 have h3:10^(Fo.cutSign l).2.length≤10^18:=Nat.pow_le_pow_right (by decide) hl
 have:Fo.numOf (Fo.cutSign l).2=(Fo.cutSign l).2.foldl stepD 0:=rfl
 omega
theorem bdN(w:World)(n:Nat):Below w.heap.size w (w.drewN n):=⟨rfl,rfl,rfl,Nat.le_refl _,fun _ _=>rfl⟩
def WholeIs(l:List Nat)(n:Int)(b:Bool):Prop:=match Fo.whole l with
 |some v=>n=v∧b=true
 |none=>b=false
theorem WholeIs.long{l:List Nat}(n:Int)(h:¬ (1≤(Fo.cutSign l).2.length∧(Fo.cutSign l).2.length≤10)):WholeIs l n false:=by
 unfold WholeIs Fo.whole
 rw[if_neg h]
theorem WholeIs.nil{l:List Nat}{n:Int}(h:1≤(Fo.cutSign l).2.length∧(Fo.cutSign l).2.length≤10)(ha:AI l n .nilIface):WholeIs l n true:=by
 unfold WholeIs Fo.whole
 rw[if_pos h]
 unfold AI at ha
 cases hf:Fo.atoi l with
 |some v=>rw[hf]at ha;exact⟨ha.1,rfl⟩
 |none=>rw[hf]at ha;obtain⟨_,_,h⟩:=ha;cases h
theorem WholeIs.err{l:List Nat}{n:Int}{te:TypeId}{pe:Value}(h:1≤(Fo.cutSign l).2.length∧(Fo.cutSign l).2.length≤10)(ha:AI l n (.iface te pe)):WholeIs l n false:=by
 unfold WholeIs Fo.whole
 rw[if_pos h]
 unfold AI at ha
 cases hf:Fo.atoi l with
 |some v=>rw[hf]at ha;cases ha.2
 |none=>rfl
def WT(l:List Nat)(w:World)(e:Ending)(w':World):Prop:=(∃ n b,e=.returned (.tuple #[.int .i64 n,.bool b])∧WholeIs l n b)∧Below w.heap.size w w'
theorem wo_3(he:ErrW B w)(hB:B≤w.heap.size)(S:ByteArray)(hS:S.size≤1000000):Calls Tryz.prog 307 #[.string S] w (WT (bl S) w):=by
 have HC:=hide (cSo (w:=w) S hS)
 have HA:=hide (fun m=>ato (he.below hB (bdN w m)) S hS)
 have HSM:Hid (1≤(Fo.cutSign (bl S)).2.length∧(Fo.cutSign (bl S)).2.length≤10→Small (bl S)):=fun h=>so_4 (blb S) (by omega)
 generalize bl S=l at *
 have HDS:Hid ((strN (Fo.cutSign l).2).size=(Fo.cutSign l).2.length):=by unfold Hid strN;simp[ByteArray.size]
 clear he
 go_enter Tryz.func307,Tryz.ntmps307
 go_wp2_with fail
 refine HC.o.mono ?_
 rintro e w1 ⟨⟨a,b,rfl,ha,hb⟩,m,rfl⟩
 have hbs:b=.string (strN (Fo.cutSign l).2):=hb
 obtain⟨a',has⟩:∃ a',a=.string a':=⟨_,ha⟩
 subst hbs has
 clear ha hb HC
 go_wp2_with fail
 refine(HA.o m).mono ?_
 rintro e w2 ⟨⟨n,ev,rfl,hev,hres⟩,b2⟩
 have HRES:=hide hres
 have B2:=hide ((bdN w m).trans b2)
 clear hres b2 HA
 obtain⟨T,hT⟩:∃ T,strN (Fo.cutSign l).2=T:=⟨_,rfl⟩
 rw[hT]at HDS ⊢
 obtain⟨z,hz⟩:∃ z,(Fo.cutSign l).2.length=z:=⟨_,rfl⟩
 rw[hz]at HDS
 have hTz:T.size=z:=HDS.o
 have HZ:=hide hz
 clear hT hz HDS
 rcases hev with rfl | ⟨te,pe,rfl⟩
 ·by_cases hd:1≤z∧z≤10
  ·have hd':1≤(Fo.cutSign l).2.length∧(Fo.cutSign l).2.length≤10:=by rw[HZ.o];exact hd
   have HX:=hide (WholeIs.nil hd' (HRES.o (HSM.o hd')))
   clear hd' HRES HSM HZ
   have hw1:(1:Int)≤(T.size:Int):=by omega
   have hw2:(T.size:Int)≤10:=by omega
   clear hTz hd
   go_wp2_with fail
   refine(wiy (T.size:Int) 1 10 _ hw1 hw2).mono ?_
   rintro e w' ⟨rfl,rfl⟩
   go_wp2
   go_ret2
   exact⟨⟨n,true,rfl,HX.o⟩,B2.o⟩
  ·have HX:=hide (WholeIs.long (l:=l) n (by rw[HZ.o];exact hd))
   clear HRES HSM HZ
   have hw1:(T.size:Int)<1∨(10:Int)<(T.size:Int):=by omega
   clear hTz hd
   go_wp2_with fail
   refine(win (T.size:Int) 1 10 _ hw1).mono ?_
   rintro e w' ⟨rfl,rfl⟩
   go_wp2
   go_ret2
   exact⟨⟨n,false,rfl,HX.o⟩,B2.o⟩
 ·have HX:Hid (WholeIs l n false):=by
   by_cases hd:1≤z∧z≤10
   ·have hd':1≤(Fo.cutSign l).2.length∧(Fo.cutSign l).2.length≤10:=by rw[HZ.o];exact hd
    exact WholeIs.err hd' (HRES.o (HSM.o hd'))
   ·exact WholeIs.long (l:=l) n (by rw[HZ.o];exact hd)
  clear HRES HSM HZ hTz
  go_wp2
  go_ret2
  exact⟨⟨n,false,rfl,HX.o⟩,B2.o⟩
end
section
variable{w0:World}{B bs cap K k:Nat}{ao:Option Addr}{data:List Nat}{x2 x3 x4:Value}{w w':World}{q r:List Nat}{iv kv:Value}{vs:List Value}{Vs:List (VT k)}{ks:List (List Nat)}
def VRes(B bs:Nat)(ao:Option Addr)(cap:Nat)(data:List Nat)(x2 x3 x4:Value)(k:Nat)(o:Option (VT k × List Nat))(w:World)(e:Ending)(w':World):Prop:=
 SRes B bs ao cap data x2 x3 x4 (fun w' V v=>VIn (fun g=>w.heap.size≤g) k w' v V) o w e w'
def VO(B bs:Nat)(ao:Option Addr)(cap:Nat)(data:List Nat)(x2 x3 x4:Value)(k:Nat):Prop:=
 ∀(W:World) (r:List Nat),ErrW B W→Sc B bs ao cap data x2 x3 x4 W r→Calls Tryz.prog 192 #[.pointer (some ⟨bs,0,none⟩),.int .i64 (13-k:Nat)] W (VRes B bs ao cap data x2 x3 x4 k (Fo.value k r) W)
def addV{α:Type}(Vs:List α)(o:Option (List α × List Nat)):Option (List α × List Nat):=o.map fun x=>(Vs++x.1,x.2)
theorem aVc{α:Type}(Vs:List α)(V:α)(o:Option (List α × List Nat)):addV Vs (o.map fun x=>(V::x.1,x.2))=addV (Vs++[V]) o:=by
 cases o with
 |none=>rfl
 |some x=>simp[addV]
theorem Ar.start(h:Sc B bs ao cap data x2 x3 x4 w r):Ar w B bs ao cap data x2 x3 x4 K k ((w.alloc (.cells zero7 67)).alloc (.cells #[.int .i64 (K:Int),.int .i64 0,.int .i64 0,.string { data:=#[] },.slice none 0 0,.slice none 0 0,.slice none 0 0] 67)) r (.slice none 0 0) [] [] (.slice none 0 0) []:=by
 have b:Below w.heap.size w ((w.alloc (.cells zero7 67)).alloc (.cells #[.int .i64 (K:Int),.int .i64 0,.int .i64 0,.string { data:=#[] },.slice none 0 0,.slice none 0 0,.slice none 0 0] 67)):=((Below.refl _ _).alloc (Nat.le_refl _) _).alloc (by simp) _
 have hl:=h.le
 have hn:=h.len
 refine⟨h.other b,.of_below b,h.lt,bla _ (bln _ _),?_,World.ownsRow_nil _ _ _ _,World.ownsRow_nil _ _ _ _,rfl,fun i x y hx _=>by simp at hx,by simp only[List.length_nil];omega,by simp only[List.length_nil];omega⟩
 have:=bln (w.alloc (.cells zero7 67)) (.cells #[.int .i64 (K:Int),.int .i64 0,.int .i64 0,.string { data:=#[] },.slice none 0 0,.slice none 0 0,.slice none 0 0] 67)
 simpa using this
theorem Ar.fin(h:Ar w0 B bs ao cap data x2 x3 x4 K k w q iv vs Vs kv ks)(o:Only w0.heap.size w w') :
  VIn (fun g=>w0.heap.size≤g) (k+1) w' (.agg #[.int .i64 (K:Int),.int .i64 0,.int .i64 0,.string { data:=#[] },iv,kv,.slice none 0 0]) (⟨K,0,0,[],Vs,ks,[]⟩:Node (VT k))∧Sc B bs ao cap data x2 x3 x4 w' q∧Only bs w0 w':=by
 have hlt:=h.lt
 have hsz:=h.only.size
 have hBb:=h.sc.hb
 have hrl:=lt_of_block h.rb
 have hb:∀ g,g<w.heap.size→g≠w0.heap.size→w'.heap[g]?=w.heap[g]?:=fun g h1 h2=>o.block g h1 h2
 refine⟨VIn.mono (k+1) (VIn.keep (k+1) h.val (fun g h1 h2=>hb g h2 (by omega))) (fun g h1 _=>by omega),?_,?_⟩
 ·exact⟨h.sc.hb,by rw[hb _ (by omega) (by omega)];exact h.sc.blk,h.sc.dat.other (fun g hg=>hb g (by omega) (by omega)),h.sc.byt,h.sc.len,h.sc.lc,h.sc.le,h.sc.suf,h.sc.ad⟩
 ·exact⟨o.os.trans h.only.os,o.tape.trans h.only.tape,o.output.trans h.only.output,Nat.le_trans hsz o.size,fun g h1 h2=>(hb g (by omega) (by omega)).trans (h.only.block g h1 h2)⟩
theorem gDi{L:Array Bool}{i:Nat}(h:L.getD i true=false):L.getD i false=false:=by
 rcases Nat.lt_or_ge i L.size with c | c
 ·simp[c]at h ⊢;exact h
 ·simp[Nat.not_lt.2 c]at h
def SItems(b:Nat)(iv:Value)(L:Array Bool)(W:World):Prop:=L.getD 9 false=false→W.cell? ⟨b,4,none⟩=some iv
theorem SItems.set{b i:Nat}{iv:Value}{L:Array Bool}{W:World}(hi:i≠9):SItems b iv L W↔SItems b iv (L.setIfInBounds i true) W:=by
 unfold SItems
 rw[getD_set_ne false hi]
theorem so_2(hk:k≤11)(ih:VO B bs ao cap data x2 x3 x4 k)(he:ErrW B w)(h:Sc B bs ao cap data x2 x3 x4 w r) :
  Calls Tryz.prog 252 #[.pointer (some ⟨bs,0,none⟩),.int .i64 (12-k:Nat)] w (VRes B bs ao cap data x2 x3 x4 (k+1) ((Fo.arr (Fo.value k) (r.length+1) r).map fun x=>((⟨6,0,0,[],x.1,[],[]⟩:Node (VT k)),x.2)) w):=by
 obtain⟨i0,hi,hz0,hz1,hz2⟩:=info_parts iV
 have IH:=hide ih
 have HE:=hide he
 have H:=hide h
 clear ih he h
 obtain⟨R,hR⟩:∃ R,Fo.arr (Fo.value k) (r.length+1) r=R:=⟨_,rfl⟩
 rw[hR]
 have HR:Hid (addV [] (Fo.arr (Fo.value k) (r.length+1) r)=R):=by
  unfold Hid
  rw[←hR];unfold addV
  cases Fo.arr (Fo.value k) (r.length+1) r<;>simp
 clear hR
 go_enter Tryz.func252,Tryz.ntmps252
 go_wp2
 go_loopw [7] (fun _ wr=>∃(m:Nat) (q:List Nat) (iv:Value) (vs:List Value) (Vs:List (VT k)),Hid (Ar w B bs ao cap data x2 x3 x4 6 k wr q iv vs Vs (.slice none 0 0) [])∧q.length<m∧Hid (addV Vs (Fo.arr (Fo.value k) m q)=R)) (fun _ wr=>data.length-posS bs wr)
 case atStart=>exact⟨r.length+1,r,.slice none 0 0,[],[],Ar.start H.o,by omega,HR⟩
 clear H HR
 case round =>
  obtain⟨m,q,iv,vs,Vs,HA,hm,HR⟩:=hrel
  obtain⟨m,rfl⟩:∃ m',m=m'+1:=⟨m-1,by omega⟩
  have HPQ:=hide HA.o.sc.posS
  have hqle:=HA.o.sc.le
  have HM:=hide (smo HA.o.sc { data:=#[93] } (by decide) (by decide))
  rw[bo,show(UInt8.toNat 93)=93 from rfl]at HM
  have hsl:=Fo.skip_len q
  cases ht:Fo.takes [93] (Fo.skip q)with
  |some q1 =>
   rw[ht]at HM
   have hq1:=(Fo.takes_len ht).1
   simp only[List.length_cons,List.length_nil]at hq1
   have HRE:Hid (R=some (Vs,q1)):=by unfold Hid;rw[←HR.o,Fo.arr,ht];simp[addV]
   clear ht HR
   go_wp2_with fail
   refine HM.o.mono ?_
   rintro e w1 ⟨rfl,h1,k1⟩
   have H1:=hide (HA.o.step (show Sc B bs ao cap data x2 x3 x4 w1 q1 from h1) k1 (by omega))
   obtain⟨ia,ic,hivs⟩:=ows H1.o.own
   subst hivs
   have hrb:=H1.o.rb
   have hvb:=H1.o.vb
   have v0:w1.cell? ⟨w.heap.size+1,0,none⟩=some (.int .i64 6):=ceb hvb
   have v1:w1.cell? ⟨w.heap.size+1,1,none⟩=some (.int .i64 0):=ceb hvb
   have v2:w1.cell? ⟨w.heap.size+1,2,none⟩=some (.int .i64 0):=ceb hvb
   have v3:w1.cell? ⟨w.heap.size+1,3,none⟩=some (.string { data:=#[] }):=ceb hvb
   have v4:w1.cell? ⟨w.heap.size+1,4,none⟩=some (.slice ia vs.length ic):=ceb hvb
   have v5:w1.cell? ⟨w.heap.size+1,5,none⟩=some (.slice none 0 0):=ceb hvb
   have v6:w1.cell? ⟨w.heap.size+1,6,none⟩=some (.slice none 0 0):=ceb hvb
   have r0:w1.cell? ⟨w.heap.size,0,none⟩=some (.int .i64 0):=ceb hrb
   have r1:w1.cell? ⟨w.heap.size,1,none⟩=some (.int .i64 0):=ceb hrb
   have r2:w1.cell? ⟨w.heap.size,2,none⟩=some (.int .i64 0):=ceb hrb
   have r3:w1.cell? ⟨w.heap.size,3,none⟩=some (.string { data:=#[] }):=ceb hrb
   have r4:w1.cell? ⟨w.heap.size,4,none⟩=some (.slice none 0 0):=ceb hrb
   have r5:w1.cell? ⟨w.heap.size,5,none⟩=some (.slice none 0 0):=ceb hrb
   have r6:w1.cell? ⟨w.heap.size,6,none⟩=some (.slice none 0 0):=ceb hrb
   have f0:w1.frozen? ⟨w.heap.size,0,none⟩=false:=frb hrb
   have f1:w1.frozen? ⟨w.heap.size,1,none⟩=false:=frb hrb
   have f2:w1.frozen? ⟨w.heap.size,2,none⟩=false:=frb hrb
   have f3:w1.frozen? ⟨w.heap.size,3,none⟩=false:=frb hrb
   have f4:w1.frozen? ⟨w.heap.size,4,none⟩=false:=frb hrb
   have f5:w1.frozen? ⟨w.heap.size,5,none⟩=false:=frb hrb
   have f6:w1.frozen? ⟨w.heap.size,6,none⟩=false:=frb hrb
   have HF:=hide (set7 hrb (.int .i64 6) (.int .i64 0) (.int .i64 0) (.string { data:=#[] }) (.slice ia vs.length ic) (.slice none 0 0) (.slice none 0 0))
   have HO:=hide (only7 w1 w.heap.size (.int .i64 6) (.int .i64 0) (.int .i64 0) (.string { data:=#[] }) (.slice ia vs.length ic) (.slice none 0 0) (.slice none 0 0))
   clear h1 k1 HM hrb hvb
   go_wp2
   refine bodyPost_ret (v:=.agg #[.int .i64 6,.int .i64 0,.int .i64 0,.string { data:=#[] },.slice ia vs.length ic,.slice none 0 0,.slice none 0 0]) ?_ rfl ?_
   ·exact results_cell_row Tryz.results252 _ _ w.heap.size 67 _ _ _ rfl HF.o Tryz.underlying67 rfl (by kernel_rfl)
   obtain⟨a1,a2,a3⟩:=H1.o.fin HO.o
   exact SRes.some_ (by rw[HRE.o];rfl) a1 a2 a3
  |none =>
   rw[ht]at HM
   have HR1:Hid (addV Vs (match Fo.value k (Fo.skip q)with | none=>none | some (v,q)=>(Fo.arr (Fo.value k) m q).map fun x=>(v::x.1,x.2))=R):=by
    unfold Hid
    rw[←HR.o]
    conv=>rhs;rw[Fo.arr,ht]
    cases Fo.value k (Fo.skip q)<;>rfl
   clear ht HR
   go_wp2_with fail
   refine HM.o.mono ?_
   rintro e w1 ⟨rfl,h1,k1⟩
   have H1:=hide (HA.o.step (show Sc B bs ao cap data x2 x3 x4 w1 (Fo.skip q)from h1) k1 hsl)
   clear h1 k1 HM
   have hvb:=H1.o.vb
   have hcv:w1.cell? ⟨w.heap.size+1,4,none⟩=some iv:=ceb hvb
   have HCV:=hide hcv
   have HD1:Hid (((12-k:Nat):Int)+1=((13-k:Nat):Int)):=by unfold Hid;omega
   have h12:12-k≤12:=by omega
   have HV:=hide (IH.o w1.drew (Fo.skip q) (HE.o.only HA.o.sc.hb (Nat.le_of_lt (Nat.lt_of_le_of_lt HA.o.sc.hb HA.o.lt)) (H1.o.drew.only)) H1.o.drew.sc)
   obtain⟨ao1,c1,hiv⟩:=ows H1.o.own
   clear hcv hvb
   go_wp2_with fail
   refine wrT (SItems (w.heap.size+1) iv) (by kernel_rfl) ?_
   intro hD
   have hS:SItems (w.heap.size+1) iv (Array.replicate 10 false) w1.drew:=fun _=>HCV.o
   refine ti 0 ?_ hD hS ?_
   clear hD hS;intro hD hS;(try simp only[putL])
   refine tk 1 ?_ hD ?_ hS ?_
   rotate_left
   ·intro W hW;obtain⟨L,hDs,hL,hSL⟩:=hW;have hcl:=hSL (by cases h9:L.getD 9 false with | false=>rfl | true=>exact absurd (hDs.came 2 9 (by kernel_rfl) h9) (by rw[gDi hL];decide));go_simp;try(with_reducible rfl)
   clear hD hS;intro hD hS;(try simp only[putL])
   refine ti 2 ?_ hD hS ?_
   clear hD hS;intro hD hS;(try simp only[putL])
   refine ti 3 ?_ hD hS ?_
   clear hD hS;intro hD hS;(try simp only[putL])
   refine ti 4 ?_ hD hS ?_
   clear hD hS;intro hD hS;(try simp only[putL])
   have HW1:Hid (IntKind.i64.wrap (((12-k:Nat):Int)+1)=((13-k:Nat):Int)):=by unfold Hid;rw[IntKind.wrap_i64];omega
   cases hv:Fo.value k (Fo.skip q)with
   |none =>
    rw[hv]at HV HR1
    have HE2:Hid (R=none):=by unfold Hid;rw[←HR1.o];rfl
    clear hv HR1
    refine on 5 hD fun K' hK=>?_
    go_simp
    rw[HW1.o]
    refine HV.o.mono ?_
    rintro e w2 ⟨rfl,k2⟩
    exact⟨rfl,SRes.none_ (by rw[HE2.o];rfl) (H1.o.drew.only.trans k2)⟩
   |some x =>
    obtain⟨V,q2⟩:=x
    rw[hv]at HV HR1
    have hqv:=Fo.value_len hv
    have HR2:Hid (addV (Vs++[V]) (Fo.arr (Fo.value k) m q2)=R):=by
     unfold Hid
     rw[←HR1.o];exact(aVc _ _ _).symm
    clear hv HR1
    refine on 5 hD fun K' hK=>?_
    go_simp
    rw[HW1.o]
    refine HV.o.mono ?_
    rintro e w2 ⟨v,rfl,hvi,h2,k2⟩
    have H2:=hide (H1.o.drew.step h2 k2 (by omega))
    have HC2:Hid (w2.cell? ⟨w.heap.size+1,4,none⟩=some iv):=by unfold Hid;rw[ceb H2.o.vb];rfl
    have HVI:=hide hvi
    have hVc:=hvi.cells
    obtain⟨a0,a1,a2,a3,a4,a5,a6,rfl⟩:∃ a0 a1 a2 a3 a4 a5 a6,v=.agg #[a0,a1,a2,a3,a4,a5,a6]:=VIn.agg hvi
    have hs2:=h2.lt
    clear hvi h2 k2 HV
    refine hK.o _ _ (fun _=>HC2.o) (fun hD2 hS2=>?_)
    clear hD hS hK K'
    have hD:=hD2
    have hS:=hS2
    clear hD2 hS2
    (try simp only[putL])
    refine on 6 hD fun K' hK=>?_
    go_simp
    have H3:=hide (H2.o.alloc (.cells #[a0,a1,a2,a3,a4,a5,a6] 67))
    have HC3:Hid ((w2.alloc (.cells #[a0,a1,a2,a3,a4,a5,a6] 67)).cell? ⟨w.heap.size+1,4,none⟩=some iv):=by unfold Hid;rw[ceb H3.o.vb];rfl
    refine hK.o _ _ (fun _=>HC3.o) (fun hD2 hS2=>?_)
    clear hD hS hK K'
    have hD:=hD2
    have hS:=hS2
    clear hD2 hS2
    (try simp only[putL])
    refine on 7 hD fun K' hK=>?_
    have hfew:=H1.o.few
    have hsz:=H2.o.only.size
    have hvl:=lt_of_block H2.o.vb
    refine saw rfl (.tmp 11) (.tmp 16) 29 rfl (w.heap.size+2) 67 i0 _ 7 112 Tryz.underlying29 hi hz0 hz1 hz2 rfl (by decide) iv vs.length (vs.flatMap cellsOf) (by rw[hiv];rfl) H3.o.own ⟨w2.heap.size,0,none⟩ 1 1 [a0,a1,a2,a3,a4,a5,a6] rfl rfl ?hnews ?hone ?h63 ?hby ?hbs ?_
    case hnews =>
     intro j u hu
     rw[aa,ceb (bln w2 _)]
     simpa using hu
    case hone=>exact hVc.2
    case h63=>unfold maxLen;omega
    case hby=>omega
    case hbs=>simp;omega
    intro v6 w6 own6 hg6 hw6
    have HX3:Hid (VIn (fun g=>w1.drew.heap.size≤g) k (w2.alloc (.cells #[a0,a1,a2,a3,a4,a5,a6] 67)) (.agg #[a0,a1,a2,a3,a4,a5,a6]) V):=VIn.keep k HVI.o (fun g _ hg=>((Below.refl w2.heap.size w2).alloc (Nat.le_refl _) _).block g hg)
    have H6:=hide (H3.o.item (S:=w1.heap.size) (fun g hg=>(H1.o.own.lt g hg).2) (fun g hg=>by cases hg) (by have:=lt_of_block H1.o.vb;omega) HX3.o own6 hg6 hw6 (by omega))
    have hv6:w6.heap[w.heap.size+1]?=some (.cells #[.int .i64 6,.int .i64 0,.int .i64 0,.string { data:=#[] },iv,.slice none 0 0,.slice none 0 0] 67 (0,0)):=by
     rw[hg6.block _ (by have:=lt_of_block H3.o.vb;exact this) (fun e=>by have:=(H3.o.own.lt _ e.symm).1;omega)];exact H3.o.vb
    have hc6:w6.cell? ⟨w.heap.size+1,4,none⟩=some iv:=ceb hv6
    have hf6:w6.frozen? ⟨w.heap.size+1,4,none⟩=false:=frb hv6
    obtain⟨ao6,c6,hv6s⟩:=ows own6
    subst hv6s
    have HM6:=hide H6.o.sc.posS
    clear own6 hg6 hw6 hv6 H3 HX3 HVI HC3 HC2 H2 hVc
    refine hK.o _ _ (fun _=>hc6) (fun hD2 hS2=>?_)
    clear hD hS hK K'
    have hD:=hD2
    have hS:=hS2
    clear hD2 hS2
    (try simp only[putL])
    refine on 8 hD fun K' hK=>?_
    go_simp
    refine hK.o _ _ (fun _=>hc6) (fun hD2 hS2=>?_)
    clear hD hS hK K'
    have hD:=hD2
    have hS:=hS2
    clear hD2 hS2
    (try simp only[putL])
    refine on 9 hD fun K' hK=>?_
    go_simp
    refine hK.o _ _ (fun h9=>by cases h9) (fun hD2 hS2=>?_)
    clear hD hS hK K'
    have hD:=hD2
    have hS:=hS2
    clear hD2 hS2
    (try simp only[putL])
    refine wATd (by kernel_rfl) ?_ _
    clear hD hS hc6 hf6
    go_wp2
    go_roundw
    case rel=>exact⟨m,q2,_,_,_,H6,by omega,HR2⟩
    case measure =>
     rw[HPQ.o,HM6.o]
     omega
end
end Go.Proofs.YtgkljcmjnphpeaaGreatDoor
