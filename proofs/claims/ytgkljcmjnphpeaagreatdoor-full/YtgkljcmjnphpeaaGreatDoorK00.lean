import Derived.Test.YtgkljcmjnphpeaaGreatDoorProg
import Derived.WalkLawsBesides
import Derived.BigQuiet
import Derived.Deep.Light
import Derived.Deep.RegionHeld
set_option linter.unusedVariables false
set_option linter.unusedSimpArgs false
set_option maxHeartbeats 400000
namespace Go.Proofs.YtgkljcmjnphpeaaGreatDoor
open Go.RowKit
theorem wi(n a b:Int)(w:World):Calls Tryz.prog 63 #[.int .i64 n,.int .i64 a,.int .i64 b] w fun e w'=>e=.returned (.bool (decide (a≤n)&&decide (n≤b)))∧w'=w:=by
 go_enter Tryz.func63,Tryz.ntmps63
 go_wp2
 all_goals (go_ret;refine⟨?_,rfl⟩)
 ·rename_i h;simp[h]
 ·rename_i h;simp[h];omega
theorem wiy(n a b:Int)(w:World)(h1:a≤n)(h2:n≤b):Calls Tryz.prog 63 #[.int .i64 n,.int .i64 a,.int .i64 b] w fun e w'=>e=.returned (.bool true)∧w'=w:=by
 have:=wi n a b w;simpa[h1,h2]using this
theorem win(n a b:Int)(w:World)(h:n<a∨b<n):Calls Tryz.prog 63 #[.int .i64 n,.int .i64 a,.int .i64 b] w fun e w'=>e=.returned (.bool false)∧w'=w:=by
 have e:(decide (a≤n)&&decide (n≤b))=false:=by simp;omega
 have:=wi n a b w;rw[e]at this;exact this
theorem wib(n a b:Int)(w:World):Calls Tryz.prog 216 #[.int .u8 n,.int .u8 a,.int .u8 b] w fun e w'=>e=.returned (.bool (decide (a≤n)&&decide (n≤b)))∧w'=w:=by
 go_enter Tryz.func216,Tryz.ntmps216
 go_wp2
 all_goals (go_ret;refine⟨?_,rfl⟩)
 ·rename_i h;simp[h]
 ·rename_i h;simp[h];omega
theorem wby(n a b:Int)(w:World)(h1:a≤n)(h2:n≤b):Calls Tryz.prog 216 #[.int .u8 n,.int .u8 a,.int .u8 b] w fun e w'=>e=.returned (.bool true)∧w'=w:=by
 have:=wib n a b w;simpa[h1,h2]using this
theorem wbn(n a b:Int)(w:World)(h:n<a∨b<n):Calls Tryz.prog 216 #[.int .u8 n,.int .u8 a,.int .u8 b] w fun e w'=>e=.returned (.bool false)∧w'=w:=by
 have e:(decide (a≤n)&&decide (n≤b))=false:=by simp;omega
 have:=wib n a b w;rw[e]at this;exact this
theorem muy(w:World):Calls Tryz.prog 163 #[.bool true] w fun e w'=>e=.returned (.tuple #[])∧w'=w:=by
 go_enter Tryz.func163,Tryz.ntmps163
 go_wp2
 go_end0
 exact⟨rfl,rfl⟩
theorem iw(c:Int)(w:World):Calls Tryz.prog 250 #[.int .u8 c] w fun e w'=>e=.returned (.bool (c==0||c==9||c==10||c==12||c==13||c==32))∧w'=w:=by
 go_enter Tryz.func250,Tryz.ntmps250
 go_wp2
 all_goals (go_ret;exact⟨by simp[*],rfl⟩)
end Go.Proofs.YtgkljcmjnphpeaaGreatDoor
namespace Go
section
open Go.RowKit
theorem bsC{w:World}{b i:Nat}{c:Array Value}{t:TypeId}{fz:Nat × Nat}(v:Value)(h:w.heap[b]?=some (.cells c t fz)) :
  (w.setCell ⟨b,i,none⟩ v).heap[b]?=some (.cells (c.setIfInBounds i v) t fz):=by
 have hlt:=lt_of_block h
 have h':w.heap[b]=.cells c t fz:=by simpa[Array.getElem?_eq_getElem hlt]using h
 show(w.heap.modify b _)[b]?=_
 rw[Array.getElem?_eq_getElem (by simpa using hlt),Array.getElem_modify_self,h']
 rfl
theorem bsCn{w:World}{b b' i:Nat}(v:Value)(hne:b'≠b):(w.setCell ⟨b,i,none⟩ v).heap[b']?=w.heap[b']? :=
 Below.heap_setCell _ _ _ _ hne
theorem bla{w:World}{b:Nat}{o:Obj}(o':Obj)(h:w.heap[b]?=some o):(w.alloc o').heap[b]?=some o:=by
 rw[Below.heap_alloc _ _ _ (lt_of_block h)];exact h
theorem bln(w:World)(o:Obj):(w.alloc o).heap[w.heap.size]?=some o:=by
 show(w.heap.push o)[w.heap.size]?=_
 simp
theorem ceb{w:World}{b i:Nat}{c:Array Value}{t:TypeId}{fz:Nat × Nat}(h:w.heap[b]?=some (.cells c t fz)):w.cell? ⟨b,i,none⟩=c[i]?:=by
 simp[World.cell?,h]
theorem frb{w:World}{b i:Nat}{c:Array Value}{t:TypeId}(h:w.heap[b]?=some (.cells c t (0,0))):w.frozen? ⟨b,i,none⟩=false:=by
 simp[World.frozen?,h]
theorem own_ne{w:World}{B b:Nat}{e t:TypeId}{size n:Nat}{v:Value}{xs:List Value}{c:Array Value}{fz:Nat × Nat}(h:w.ownsRow B e size v n xs)(hb:w.heap[b]?=some (.cells c t fz))(hne:t≠e):v.ownBlock≠some b:=by
 rcases h.2 with⟨rfl,_⟩ | ⟨g,cap,cur,rfl,_,hh,_⟩
 ·simp[Value.ownBlock]
 ·intro he
  have:g=b:=by simpa[Value.ownBlock]using he
  subst this
  rw[hh]at hb
  simp at hb
  exact hne hb.2.1.symm
theorem cn{w:World}{a b:Addr}(v:Value)(h:a.block≠b.block):(w.setCell a v).cell? b=w.cell? b:=World.cell?_setCell_other w a b v (fun e=>h (by rw[e]))
structure Kept(e:TypeId)(B:Nat)(S:List Nat)(w w':World):Prop where
 os:w'.os=w.os
 tape:w'.tape=w.tape
 output:w'.output=w.output
 size:w.heap.size≤w'.heap.size
 block:∀ k o,k∉S→w.heap[k]?=some o→(k<B∨∀ c fz,o≠.cells c e fz)→w'.heap[k]?=some o
variable{e:TypeId}{B:Nat}{S:List Nat}
theorem Kept.refl(e:TypeId)(B:Nat)(S:List Nat)(w:World):Kept e B S w w:=⟨rfl,rfl,rfl,Nat.le_refl _,fun _ _ _ h _=>h⟩
theorem Kept.trans{a b c:World}(h:Kept e B S a b)(k:Kept e B S b c):Kept e B S a c:=
 ⟨k.os.trans h.os,k.tape.trans h.tape,k.output.trans h.output,Nat.le_trans h.size k.size,fun i o hi ho hc=>k.block i o hi (h.block i o hi ho hc) hc⟩
theorem Kept.mono{S':List Nat}{a b:World}(h:Kept e B S a b)(hs:∀ k,k∈S→k∈S'):Kept e B S' a b:=
 ⟨h.os,h.tape,h.output,h.size,fun i o hi ho hc=>h.block i o (fun m=>hi (hs i m)) ho hc⟩
theorem Kept.drewN{a w:World}(h:Kept e B S a w)(n:Nat):Kept e B S a (w.drewN n):=⟨h.os,h.tape,h.output,h.size,h.block⟩
theorem Kept.drew{a w:World}(h:Kept e B S a w):Kept e B S a w.drew:=⟨h.os,h.tape,h.output,h.size,h.block⟩
theorem Kept.alloc{a w:World}(h:Kept e B S a w)(o:Obj):Kept e B S a (w.alloc o):=
 h.trans ⟨rfl,rfl,rfl,by simp,fun _ _ _ hk _=>bla _ hk⟩
theorem Kept.setCell{a w:World}(h:Kept e B S a w){p:Addr}(hp:p.block∈S)(u:Value):Kept e B S a (w.setCell p u):=
 h.trans ⟨rfl,rfl,rfl,by simp[World.setCell],fun k _ (hk:k∉S) ho _=>by rw[Below.heap_setCell _ _ _ _ (fun c=>hk (by rw[c];exact hp))];exact ho⟩
theorem Kept.grown{a w w':World}{row:Option Nat}(h:Kept e B S a w)(hg:w.grownBy w' row)(hr:∀ g,row=some g→B≤g∧∃ cur fz,w.heap[g]?=some (.cells cur e fz)):Kept e B S a w' :=
 h.trans ⟨hg.os,hg.tape,hg.output,hg.size,fun k o _ ho hc=>by
  rw[hg.block k (lt_of_block ho) (fun c=>by
   obtain⟨h1,cur,fz,h2⟩:=hr k c.symm
   rw[h2]at ho
   rcases hc with hc | hc
   ·omega
   ·exact hc cur fz (Option.some.inj ho).symm)]
  exact ho⟩
theorem Kept.below{a b:World}(h:Kept e B S a b)(hB:B≤a.heap.size)(hs:∀ k,k∈S→B≤k):Below B a b:=
 ⟨h.os,h.tape,h.output,h.size,fun k hk=>by
  obtain⟨o,ho⟩:∃ o,a.heap[k]?=some o:=⟨a.heap[k]'(by omega),Array.getElem?_eq_getElem _⟩
  rw[ho];exact h.block k o (fun m=>by have:=hs k m;omega) ho (Or.inl hk)⟩
theorem Kept.cell{a b:World}(h:Kept e B S a b)(hs:∀ k,k∈S→B≤k){p:Addr}{v:Value}(hp:p.block<B)(hv:a.cell? p=some v):b.cell? p=some v:=by
 have hlt:=World.block_lt_of_cell? a p hv
 obtain⟨o,ho⟩:∃ o,a.heap[p.block]?=some o:=⟨a.heap[p.block]'hlt,Array.getElem?_eq_getElem _⟩
 have:=h.block p.block o (fun m=>by have:=hs _ m;omega) ho (Or.inl hp)
 rw[World.cell?_of_block (w:=a) (this.trans ho.symm)];exact hv
theorem owr{w:World}{B:Nat}{e:TypeId}{size n:Nat}{v:Value}{xs:List Value}(h:w.ownsRow B e size v n xs):∀ g,v.ownBlock=some g→B≤g∧∃ cur fz,w.heap[g]?=some (.cells cur e fz):=by
 intro g hg
 rcases h.2 with⟨rfl,_⟩ | ⟨g',cap,cur,rfl,hb,hh,_⟩
 ·simp[Value.ownBlock]at hg
 ·simp[Value.ownBlock]at hg;subst hg;exact⟨hb,cur,_,hh⟩
theorem ows{w:World}{B e n:Nat}{v:Value}{xs:List Value}{size:Nat}(h:w.ownsRow B e size v n xs):∃ ao c,v=.slice ao n c:=by
 rcases h.2 with⟨e1,e2⟩ | ⟨g,cap,cur,e1,_⟩
 ·exact⟨none,0,by rw[e1,e2]⟩
 ·exact⟨_,_,e1⟩
end
end Go
namespace Go.Proofs.YtgkljcmjnphpeaaGreatDoor
open Go.RowKit
section
def nth(d:List Nat)(i:Nat):Nat:=d.getD i 0
def Dat(w:World)(B:Nat)(ao:Option Addr)(l:List Nat):Prop:=∀ i,i<l.length→∃ b o,ao=some ⟨b,o,none⟩∧b<B∧w.cell? ⟨b,o+i,none⟩=some (.int .u8 (nth l i:Nat))
structure Rd(B br bd off cap:Nat)(d:List Nat)(most:Nat)(w:World)(p:Nat)(ov:Value)(out:List Nat):Prop where
 hB:bd<B
 hb:B≤br
 blk:w.heap[br]?=some (.cells #[.slice (some ⟨bd,off,none⟩) d.length cap,.int .i64 p,ov,.int .i64 most] 141 (0,0))
 dat:∀ i,i<d.length→w.cell? ⟨bd,off+i,none⟩=some (.int .u8 (nth d i:Nat))
 own:w.ownsRow B 5 1 ov out.length (out.map fun x:Nat=>.int .u8 (x:Int))
 byt:∀ i,i<d.length→nth d i<256
 cp:d.length≤cap
 lc:cap≤9223372036854775807
 lm:most≤1000000
 lo:out.length≤most
 lp:p≤d.length
variable{B br bd off cap:Nat}{d:List Nat}{most:Nat}{w:World}{p:Nat}{ov:Value}{out:List Nat}
theorem Rd.c0(h:Rd B br bd off cap d most w p ov out):w.cell? ⟨br,0,none⟩=some (.slice (some ⟨bd,off,none⟩) d.length cap):=ceb h.blk
theorem Rd.c1(h:Rd B br bd off cap d most w p ov out):w.cell? ⟨br,1,none⟩=some (.int .i64 p):=ceb h.blk
theorem Rd.c2(h:Rd B br bd off cap d most w p ov out):w.cell? ⟨br,2,none⟩=some ov:=ceb h.blk
theorem Rd.c3(h:Rd B br bd off cap d most w p ov out):w.cell? ⟨br,3,none⟩=some (.int .i64 most):=ceb h.blk
theorem Rd.fz(h:Rd B br bd off cap d most w p ov out)(i:Nat):w.frozen? ⟨br,i,none⟩=false:=frb h.blk
theorem Rd.drewN(h:Rd B br bd off cap d most w p ov out)(n:Nat):Rd B br bd off cap d most (w.drewN n) p ov out:=
 ⟨h.hB,h.hb,h.blk,h.dat,h.own,h.byt,h.cp,h.lc,h.lm,h.lo,h.lp⟩
theorem Rd.sz(h:Rd B br bd off cap d most w p ov out):B<w.heap.size:=by have:=h.hb;have:=lt_of_block h.blk;omega
theorem Rd.alloc(h:Rd B br bd off cap d most w p ov out)(o:Obj):Rd B br bd off cap d most (w.alloc o) p ov out:=
 ⟨h.hB,h.hb,bla _ h.blk,fun i hi=>by rw[World.cell?_alloc_lt _ _ _ (by have:=h.sz;have:=h.hB;show bd<_;omega)];exact h.dat i hi,h.own.alloc _,h.byt,h.cp,h.lc,h.lm,h.lo,h.lp⟩
theorem Rd.set1(h:Rd B br bd off cap d most w p ov out)(q:Nat)(hq:q≤d.length):Rd B br bd off cap d most (w.setCell ⟨br,1,none⟩ (.int .i64 q)) q ov out:=by
 have hB:=h.hB
 have hb:=h.hb
 refine⟨h.hB,h.hb,?_,?_,?_,h.byt,h.cp,h.lc,h.lm,h.lo,hq⟩
 ·rw[bsC _ h.blk];rfl
 ·intro i hi;rw[cn _ (by show br≠bd;omega)];exact h.dat i hi
 ·exact ownsRow_setCell_other h.own (own_ne h.own h.blk (by decide)) _
theorem tao(h:Rd B br bd off cap d most w p ov out)(n:Nat)(hn:0<n)(hp:p+n≤d.length) :
  Calls Tryz.prog 164 #[.pointer (some ⟨br,0,none⟩),.int .i64 n] w fun e w' =>
   e=.returned (.slice (some ⟨bd,off+p,none⟩) n (cap-p))∧Rd B br bd off cap d most w' (p+n) ov out∧Kept 5 B [br] w w':=by
 have c0:=h.c0
 have c1:=h.c1
 have f1:=h.fz 1
 have b1:=h.cp
 have b2:=h.lc
 have b3:=h.lp
 have b4:=h.hb
 have t1:(n:Int)≤(d.length:Int)-(p:Int):=by omega
 go_enter Tryz.func164,Tryz.ntmps164
 go_wp2_with fail
 go_quiet ((go_at_call 163;exact Calls.quiet_of_same (muy _)))
 go_wp2_with fail
 go_quiet (fail)
 go_wp2
 go_ret
 refine⟨?_,?_,?_⟩
 ·show Ending.returned (.slice (some ⟨bd,off+p,none⟩) (p+n-p) (cap-p))=_
  rw[Nat.add_sub_cancel_left]
 ·exact(h.drewN _).set1 (p+n) hp
 ·exact((Kept.refl _ _ _ _).drewN _).setCell (by simp) _
theorem neo(h:Rd B br bd off cap d most w p ov out)(hp:p<d.length) :
  Calls Tryz.prog 214 #[.pointer (some ⟨br,0,none⟩)] w fun e w' =>
   e=.returned (.int .u8 (nth d p:Nat))∧Rd B br bd off cap d most w' (p+1) ov out∧Kept 5 B [br] w w':=by
 go_enter Tryz.func214,Tryz.ntmps214
 go_wp2_with (go_at_call 164;refine(tao h 1 (by omega) (by omega)).mono ?_;rintro e w' ⟨rfl,hr,hb⟩;have hd:=hr.dat p hp)
 go_ret
 exact⟨rfl,hr,hb⟩
def posOf(br:Nat)(w:World):Nat:=(intOf ((w.cell? ⟨br,1,none⟩).getD undef)).toNat
theorem Rd.posOf(h:Rd B br bd off cap d most w p ov out):posOf br w=p:=by unfold Go.Proofs.YtgkljcmjnphpeaaGreatDoor.posOf;rw[h.c1];simp[intOf]
theorem _root_.Go.RowKit.Hid.o{p:Prop}(h:Hid p):p:=h
theorem hide{q:Prop}(h:q):Hid q:=h
theorem Tryz.infoByte:(Tryz.prog.info? 5).map (fun i=>(i.zero,i.size,i.bytes))=some (some (.int .u8 0),1,1):=by kernel_rfl
theorem roo(h:Rd B br bd off cap d most w p ov out)(n:Nat)(ho:out.length+n≤most) :
  Calls Tryz.prog 276 #[.pointer (some ⟨br,0,none⟩),.int .i64 n] w fun e w'=>e=.returned (.tuple #[])∧∃ q,w'=w.drewN q:=by
 have c2:=h.c2
 have c3:=h.c3
 have b1:=h.lm
 obtain⟨ao,oc,hov⟩:=ows h.own
 rw[hov]at c2
 clear hov
 go_enter Tryz.func276,Tryz.ntmps276
 go_wp2_with fail
 go_quiet ((go_at_call 63;exact Calls.quiet_of_same (wiy _ _ _ _ (by omega) (by omega))))
 go_wp2
 go_end0
 exact⟨rfl,_,rfl⟩
theorem Rd.grown_blk(h:Rd B br bd off cap d most w p ov out){w1:World}(hg:w.grownBy w1 ov.ownBlock) :
  w1.heap[br]?=some (.cells #[.slice (some ⟨bd,off,none⟩) d.length cap,.int .i64 p,ov,.int .i64 most] 141 (0,0)):=by
 rw[hg.block br (lt_of_block h.blk) (fun c=>own_ne h.own h.blk (by decide) c.symm)];exact h.blk
theorem Rd.put(h:Rd B br bd off cap d most w p ov out){w1:World}{v:Value}{xs:List Nat}(ho:out.length+xs.length≤most)
  (hown:w1.ownsRow B 5 1 v (out.length+xs.length) ((out.map fun x:Nat=>.int .u8 (x:Int))++(xs.map fun x:Nat=>.int .u8 (x:Int)))) (hg:w.grownBy w1 ov.ownBlock) :
  Rd B br bd off cap d most (w1.setCell ⟨br,2,none⟩ v) p v (out++xs):=by
 have hB:=h.hB
 have hb:=h.hb
 have hk:=h.grown_blk hg
 refine⟨h.hB,h.hb,?_,?_,?_,h.byt,h.cp,h.lc,h.lm,by simpa using ho,h.lp⟩
 ·rw[bsC _ hk];rfl
 ·intro i hi
  rw[cn _ (by show br≠bd;omega)]
  refine hg.cell (h.dat i hi) (fun c=>?_)
  have:=(h.own.lt _ c.symm).1
  simp at this;omega
 ·rw[List.length_append,List.map_append]
  exact ownsRow_setCell_other hown (own_ne hown hk (by decide)) _
theorem puo(h:Rd B br bd off cap d most w p ov out)(xs:List Nat)(a:Addr)(c:Nat)(ho:out.length+xs.length≤most)(hs:B≤w.heap.size)
  (hc:∀ i,i<xs.length→w.cell? (a.add i)=some (.int .u8 (nth xs i:Nat))) :
  Calls Tryz.prog 213 #[.pointer (some ⟨br,0,none⟩),.slice (some a) xs.length c] w fun e w' =>
   e=.returned (.tuple #[])∧∃ ov',Rd B br bd off cap d most w' p ov' (out++xs)∧Kept 5 B [br] w w':=by
 obtain⟨i0,hi,hz0,hz1,hz2⟩:=info_parts Tryz.infoByte
 have c2:=h.c2
 have b1:=h.lm
 go_enter Tryz.func213,Tryz.ntmps213
 go_wp2_with (first | (go_at_call 276;refine(roo h _ ho).mono ?_;rintro e w' ⟨rfl,q,rfl⟩) | (at_builtin;refine wpList_append_own _ rfl (.tmp 12) (.tmp 13) 23 rfl B 5 i0 (.int .u8 0) 1 1 Tryz.underlying23 hi hz0 hz1 hz2 rfl (by decide) ov out.length _ rfl h.own a xs.length c (xs.map fun x:Nat=>.int .u8 (x:Int)) rfl (by simp) ?hnews ?hone ?h63 ?hby hs ?_))
 case hnews =>
  intro j u hu
  have hj:j<xs.length:=by have:=(List.getElem?_eq_some_iff.1 hu).1;simpa using this
  have e:u=.int .u8 (nth xs j:Nat):=by simp[hj]at hu;simp[nth,hj,hu]
  rw[e];exact hc j hj
 case hone=>intro u hu;simp at hu;obtain⟨x,_,rfl⟩:=hu;rfl
 case h63=>unfold maxLen;omega
 case hby=>omega
 intro v' w1 hown hg0 _
 have hg:w.grownBy w1 ov.ownBlock:=⟨hg0.os,hg0.tape,hg0.output,hg0.size,hg0.block⟩
 clear hg0
 have hk:=h.grown_blk hg
 have k2:w1.cell? ⟨br,2,none⟩=some ov:=ceb hk
 have f2:w1.frozen? ⟨br,2,none⟩=false:=frb hk
 obtain⟨ao,oc,rfl⟩:=ows hown
 have R:=h.put ho hown hg
 have KK:=((Kept.refl 5 B [br] w).grown hg (owr h.own)).setCell (p:=⟨br,2,none⟩) (by simp) (.slice ao (out.length+xs.length) oc)
 clear hown hg hk
 go_wp2
 go_end0
 exact⟨rfl,_,R,KK⟩
theorem po1(h:Rd B br bd off cap d most w p ov out)(x:Nat)(v:Int)(hv:v=x)(ho:out.length+1≤most) :
  Calls Tryz.prog 213 #[.pointer (some ⟨br,0,none⟩),.slice (some ⟨w.heap.size,0,none⟩) 1 1] (w.alloc (.cells #[.int .u8 v] 5)) fun e w' =>
   e=.returned (.tuple #[])∧∃ ov',Rd B br bd off cap d most w' p ov' (out++[x])∧Kept 5 B [br] w w':=by
 subst hv
 have hs:=h.sz
 refine(puo (h.alloc _) [x] ⟨w.heap.size,0,none⟩ 1 ho (by simp;omega) ?_).mono ?_
 ·intro i hi
  obtain rfl:i=0:=by simpa using hi
  show(w.alloc _).cell? ⟨w.heap.size,0+0,none⟩=_
  rw[World.cell?_alloc_new];rfl
 ·rintro e w' ⟨rfl,ov',r,k⟩
  exact⟨rfl,ov',r,((Kept.refl _ _ _ _).alloc _).trans k⟩
end
section
variable{B br bd off cap:Nat}{d:List Nat}{most:Nat}{w:World}{p:Nat}{ov:Value}{out:List Nat}
def whB(c:Nat):Bool:=c==0||c==9||c==10||c==12||c==13||c==32
theorem whn(c:Nat)(w:World)(h:whB c=false):Calls Tryz.prog 250 #[.int .u8 c] w fun e w'=>e=.returned (.bool false)∧w'=w:=by
 have e:((c:Int)==0||(c:Int)==9||(c:Int)==10||(c:Int)==12||(c:Int)==13||(c:Int)==32)=false:=by
  simp[whB]at h ⊢;omega
 have:=iw c w
 rw[e]at this
 exact this
theorem ski(h:Rd B br bd off cap d most w p ov out)(hp:p<d.length)(hw:whB (nth d p)=false) :
  Calls Tryz.prog 188 #[.slice (some ⟨bd,off,none⟩) d.length cap,.int .i64 p] w fun e w'=>e=.returned (.int .i64 p)∧w'=w:=by
 have hd:=h.dat p hp
 have b1:=h.cp
 have b2:=h.lc
 go_enter Tryz.func188,Tryz.ntmps188
 go_wp2
 go_step3
 go_wp2
 go_step3
 go_wp2_with (go_at_call 250;refine(whn _ _ hw).mono ?_;rintro e w' ⟨rfl,rfl⟩)
 try rw[Exit.noGoto_ret]
 go_ret
 exact⟨rfl,rfl⟩
theorem ske(h:Rd B br bd off cap d most w d.length ov out) :
  Calls Tryz.prog 188 #[.slice (some ⟨bd,off,none⟩) d.length cap,.int .i64 d.length] w fun e w'=>e=.returned (.int .i64 d.length)∧w'=w:=by
 have b1:=h.cp
 have b2:=h.lc
 go_enter Tryz.func188,Tryz.ntmps188
 go_wp2
 go_step3
 go_wp2
 go_step3
 go_wp2
 try rw[Exit.noGoto_ret]
 go_ret
 exact⟨rfl,rfl⟩
theorem skWo(h:Rd B br bd off cap d most w p ov out)(q:Nat)(hq:q≤d.length)
  (hc:Calls Tryz.prog 188 #[.slice (some ⟨bd,off,none⟩) d.length cap,.int .i64 p] (w.drewN 1) fun e w'=>e=.returned (.int .i64 q)∧w'=w.drewN 1) :
  Calls Tryz.prog 155 #[.pointer (some ⟨br,0,none⟩)] w fun e w'=>e=.returned (.tuple #[])∧Rd B br bd off cap d most w' q ov out∧Kept 5 B [br] w w':=by
 have c0:=h.c0
 have c1:=h.c1
 have f1:=h.fz 1
 go_enter Tryz.func155,Tryz.ntmps155
 go_wp2_with fail
 go_region_with (go_at_call 188;refine hc.mono ?_;rintro e w' ⟨rfl,rfl⟩)
 all_goals go_wp2
 all_goals go_end0
 all_goals exact⟨rfl,(h.drewN 1).set1 q hq,((Kept.refl _ _ _ _).drewN 1).setCell (by simp) _⟩
theorem sWi(h:Rd B br bd off cap d most w p ov out)(hp:p<d.length)(hw:whB (nth d p)=false) :
  Calls Tryz.prog 155 #[.pointer (some ⟨br,0,none⟩)] w fun e w'=>e=.returned (.tuple #[])∧Rd B br bd off cap d most w' p ov out∧Kept 5 B [br] w w' :=
 skWo h p h.lp (ski (h.drewN 1) hp hw)
theorem sWe(h:Rd B br bd off cap d most w d.length ov out) :
  Calls Tryz.prog 155 #[.pointer (some ⟨br,0,none⟩)] w fun e w'=>e=.returned (.tuple #[])∧Rd B br bd off cap d most w' d.length ov out∧Kept 5 B [br] w w' :=
 skWo h d.length (Nat.le_refl _) (ske (h.drewN 1))
theorem nIo(h:Rd B br bd off cap d most w p ov out)(hp:p<d.length)(hw:whB (nth d p)=false) :
  Calls Tryz.prog 211 #[.pointer (some ⟨br,0,none⟩)] w fun e w'=>e=.returned (.int .u8 (nth d p:Nat))∧Rd B br bd off cap d most w' (p+1) ov out∧Kept 5 B [br] w w':=by
 go_enter Tryz.func211,Tryz.ntmps211
 go_wp2_with (first | (go_at_call 155;refine(sWi h hp hw).mono ?_;rintro e w1 ⟨rfl,h1,k1⟩) | (go_at_call 214;refine(neo h1 hp).mono ?_;rintro e w2 ⟨rfl,h2,k2⟩))
 go_ret
 exact⟨rfl,h2,k1.trans k2⟩
theorem eo(h:Rd B br bd off cap d most w d.length ov out) :
  Calls Tryz.prog 156 #[.pointer (some ⟨br,0,none⟩)] w fun e w'=>e=.returned (.tuple #[])∧∃ q,w'=w.drewN q:=by
 have c0:=h.c0
 have c1:=h.c1
 go_enter Tryz.func156,Tryz.ntmps156
 go_wp2_with fail
 go_quiet ((go_at_call 163;exact Calls.quiet_of_same (muy _)))
 go_wp2
 go_end0
 exact⟨rfl,_,rfl⟩
end
namespace Fo
def hexDig(n:Nat):Nat:=if n<10 then 48+n else 87+n
def hexVal(c:Nat):Option Nat:=if 48≤c∧c≤57 then some (c-48)else if 97≤c∧c≤102 then some (c-97+10)else if 65≤c∧c≤70 then some (c-65+10)else none
end Fo
section
variable{B br bd off cap:Nat}{d:List Nat}{most:Nat}{w:World}{p:Nat}{ov:Value}{out:List Nat}
theorem rbb{a b:Int}{t:Bool}(h:a=b):Ending.returned (.tuple #[.int .u8 a,.bool t])=.returned (.tuple #[.int .u8 b,.bool t]):=by rw[h]
theorem hDo(c v:Nat)(w:World)(h:Fo.hexVal c=some v):Calls Tryz.prog 275 #[.int .u8 c] w fun e w'=>e=.returned (.tuple #[.int .u8 v,.bool true])∧w'=w:=by
 unfold Fo.hexVal at h
 by_cases h1:48≤c∧c≤57
 ·rw[if_pos h1]at h
  have hv:=Option.some.inj h
  clear h
  subst hv
  have a1:(48:Int)≤(c:Int):=by omega
  have a2:(c:Int)≤57:=by omega
  go_enter Tryz.func275,Tryz.ntmps275
  go_wp2_with (go_at_call 216;refine(wib _ _ _ _).mono ?_;rintro e w' ⟨rfl,rfl⟩)
  go_ret2
  exact⟨rbb (by omega),rfl⟩
 rw[if_neg h1]at h
 have n1:(decide ((48:Int)≤(c:Int))&&decide ((c:Int)≤57))=false:=by simp;omega
 by_cases h2:97≤c∧c≤102
 ·rw[if_pos h2]at h
  have hv:=Option.some.inj h
  clear h
  subst hv
  have a1:(97:Int)≤(c:Int):=by omega
  have a2:(c:Int)≤102:=by omega
  go_enter Tryz.func275,Tryz.ntmps275
  go_wp2_with (go_at_call 216;refine(wib _ _ _ _).mono ?_;rintro e w' ⟨rfl,rfl⟩)
  go_ret2
  exact⟨rbb (by omega),rfl⟩
 rw[if_neg h2]at h
 have n2:(decide ((97:Int)≤(c:Int))&&decide ((c:Int)≤102))=false:=by simp;omega
 by_cases h3:65≤c∧c≤70
 ·rw[if_pos h3]at h
  have hv:=Option.some.inj h
  clear h
  subst hv
  have a1:(65:Int)≤(c:Int):=by omega
  have a2:(c:Int)≤70:=by omega
  go_enter Tryz.func275,Tryz.ntmps275
  go_wp2_with (go_at_call 216;refine(wib _ _ _ _).mono ?_;rintro e w' ⟨rfl,rfl⟩)
  go_ret2
  exact⟨rbb (by omega),rfl⟩
 ·rw[if_neg h3]at h
  cases h
theorem join16(a b:Nat)(ha:a<16)(hb:b<16):a*16 ||| b=a*16+b:=by
 have:∀ a b:Fin 16,a.val*16 ||| b.val=a.val*16+b.val:=by decide
 exact this ⟨a,ha⟩ ⟨b,hb⟩
end
end Go.Proofs.YtgkljcmjnphpeaaGreatDoor
namespace Go
section
section
variable{P:Program}{ops:Array Oper}{Q:Exit→Act→World→Prop}{md:Region.Mode}{S:Array Bool→World→Prop}
def Disc(md:Region.Mode)(ops:Array Oper)(L:Array Bool):Prop:=
 ∀ j oj,ops[j]?=some oj→L.getD j false=true→∀ e∈oj.after,Region.binds md e=true→L.getD e.on false=true
theorem Disc.set{i:Nat}{L:Array Bool}(h:Disc md ops L)(hi:i∈Region.ready md ops L):Disc md ops (L.setIfInBounds i true):=by
 intro j oj hj hl e he hb
 by_cases hij:i=j
 ·subst hij
  obtain⟨_,o,ho,hall⟩:=mem_ready.1 hi
  obtain rfl:oj=o:=Option.some.inj (hj.symm.trans ho)
  exact getD_set_true (hall e he hb)
 ·exact getD_set_true (h j oj hj (by rwa [getD_set_ne false hij]at hl) e he hb)
theorem Disc.start(n:Nat):Disc md ops (Array.replicate n false):=by
 intro j oj _ hl
 have:(Array.replicate n false).getD j false=false:=by
  rcases Nat.lt_or_ge j n with h | h<;>simp[h]
 rw[this]at hl;cases hl
def waits(md:Region.Mode)(ops:Array Oper)(i:Nat):Nat→Nat→Bool
 |0,_=>false
 |f+1,j=>match ops[j]? with
  |none=>false
  |some oj=>oj.after.any fun e=>Region.binds md e&&(e.on==i||waits md ops i f e.on)
theorem Disc.came{L:Array Bool}(h:Disc md ops L){i:Nat}:∀(f j:Nat),waits md ops i f j=true→L.getD j false=true→L.getD i false=true
 |0,_,hw,_=>by cases hw
 |f+1,j,hw,hj=>by
  unfold waits at hw
  cases ho:ops[j]? with
  |none=>rw[ho]at hw;cases hw
  |some oj =>
   rw[ho]at hw
   simp only[Array.any_eq_true]at hw
   obtain⟨k,hk,hb⟩:=hw
   simp only[Bool.and_eq_true,Bool.or_eq_true,beq_iff_eq]at hb
   have hm:=h j oj ho hj oj.after[k] (Array.getElem_mem _) hb.1
   rcases hb.2 with h1 | h1
   ·rw[h1]at hm;exact hm
   ·exact h.came f _ h1 hm
def wAT(P:Program)(md:Region.Mode)(ops:Array Oper)(Q:Exit→Act→World→Prop)(S:Array Bool→World→Prop):Nat→Array Bool→Act→World→Prop
 |0,L,a,w=>Region.ready md ops L=[]∧Q .normal a w
 |fuel+1,L,a,w=>(Region.ready md ops L=[]→Q .normal a w) ∧
  ∀ i∈Region.ready md ops L,wpOp P ops Q i (fun a' w'=>S (L.setIfInBounds i true) w'∧wAT P md ops Q S fuel (L.setIfInBounds i true) a' w') a w
theorem wAoT:∀(fuel:Nat) (L:Array Bool) (a:Act) (w:World),wAT P md ops Q S fuel L a w→wpAny P md ops Q fuel L a w
 |0,_,_,_,h=>h
 |fuel+1,_,_,_,h=>⟨h.1,fun i hi=>wpOp_mono (fun a' w' h'=>wAoT fuel _ a' w' h'.2) (h.2 i hi)⟩
def Held(md:Region.Mode)(ops:Array Oper)(S:Array Bool→World→Prop)(i:Nat)(W:World):Prop:=∃ L,Disc md ops L∧L.getD i true=false∧S L W
theorem wATf{i:Nat}{oi:Oper}{v:Value}(hi:ops[i]?=some oi)(hsel:∀(j:Nat) (o:Oper) cs b,ops[j]?=some o→o.op≠.select cs b)
  (hQ:∀ c a w,Q (.panic c) (a.put oi.dst v) w→Q (.panic c) a w) (hS1:∀ L W,S L W→S (L.setIfInBounds i true) W) (hS2:∀ L W,S (L.setIfInBounds i true) W→S L W) :
  ∀(fuel:Nat) (L:Array Bool) (a:Act) (w:World),Disc md ops L →
   (∀ j oj,ops[j]?=some oj→j≠i→L.getD j true=false→(∀ e∈oj.after,Region.binds md e=true→e.on≠i)→oi.apart ops oj=true) →
   i∈Region.ready md ops L→YieldsIf P ops (Held md ops S i) oi v a→S L w →
   wAT P md ops Q S fuel (L.setIfInBounds i true) (a.put oi.dst v) w→wAT P md ops Q S (fuel+1) L a w:=by
 intro fuel
 induction fuel with
 |zero =>
  intro L a w hD _ hr hy hS H
  refine⟨fun h=>(by rw[h]at hr;cases hr),fun j hj=>?_⟩
  by_cases hji:j=i
  ·subst hji;exact hy.wpOp hi ⟨L,hD,(mem_ready.1 hr).1,hS⟩ ⟨hS1 _ _ hS,H⟩
  ·have:=ready_mono hj hji
   rw[H.1]at this;cases this
 |succ fuel ih =>
  intro L a w hD hfree hr hy hS H
  refine⟨fun h=>(by rw[h]at hr;cases hr),fun j hj=>?_⟩
  by_cases hji:j=i
  ·subst hji;exact hy.wpOp hi ⟨L,hD,(mem_ready.1 hr).1,hS⟩ ⟨hS1 _ _ hS,H⟩
  have h1:=H.2 j (ready_mono hj hji)
  obtain⟨hjun,oj,hoj,hall⟩:=mem_ready.1 hj
  have hiun:=(mem_ready.1 hr).1
  have hnot:∀ e∈oj.after,Region.binds md e=true→e.on≠i:=by
   intro e he hb heq
   have h2:=hall e he hb
   rw[heq]at h2
   rcases Nat.lt_or_ge i L.size with h' | h'
   ·simp[h']at hiun h2;rw[hiun]at h2;cases h2
   ·simp[Array.getElem?_eq_none h']at h2
  have h2:=wpOp_putIf hoj (hfree j oj hoj hji hjun hnot) (fun cs b=>hsel i oi cs b hi) (fun cs b=>hsel j oj cs b hoj) hQ hy h1
  refine wpOp_mono (fun a' w' h3=>?_) h2
  obtain⟨hy',hS',H'⟩:=h3
  rw[Array.setIfInBounds_comm _ _ (Ne.symm hji)]at hS' H'
  have hS'':=hS2 _ _ hS'
  refine⟨hS'',ih _ a' w' (hD.set hj) ?_ (ready_mono hr (Ne.symm hji)) hy' hS'' H'⟩
  intro k ok hk hki hun hno
  refine hfree k ok hk hki ?_ hno
  by_cases hjk:j=k
  ·subst hjk;exact hjun
  ·rwa [getD_set_ne true hjk]at hun
theorem wATt{i:Nat}{oi:Oper}{v:Value}{fuel:Nat}{L:Array Bool}{a:Act}{w:World}(hi:ops[i]?=some oi)
  (hs:Region.noSelect ops=true) (hf:Region.free md ops L i=true) (hr:(Region.ready md ops L).contains i=true)
  (hQ:∀ c a w,Q (.panic c) (a.put oi.dst v) w→Q (.panic c) a w) (hS1:∀ L W,S L W→S (L.setIfInBounds i true) W) (hS2:∀ L W,S (L.setIfInBounds i true) W→S L W)
  (hD:Disc md ops L) (hy:YieldsIf P ops (Held md ops S i) oi v a) (hS:S L w)
  (h:Disc md ops (L.setIfInBounds i true)→S (L.setIfInBounds i true) w→wAT P md ops Q S fuel (L.setIfInBounds i true) (a.put oi.dst v) w):wAT P md ops Q S (fuel+1) L a w:=
 have hr':i∈Region.ready md ops L:=by simpa using hr
 wATf hi (Region.noSelect_spec hs) hQ hS1 hS2 fuel L a w hD (Region.free_spec hi hf) hr' hy hS (h (hD.set hr') (hS1 _ _ hS))
theorem wATo{i:Nat}{o:Oper}{fuel:Nat}{L:Array Bool}{a:Act}{w:World}(hr:Region.ready md ops L=[i])(ho:ops[i]?=some o)(hD:Disc md ops L)
  (h:∀ K':Act→World→Prop,Shut (∀ a w,S (L.setIfInBounds i true) w→(Disc md ops (L.setIfInBounds i true)→S (L.setIfInBounds i true) w→wAT P md ops Q S fuel (L.setIfInBounds i true) a w)→K' a w)→if Region.wanted o (yielded ops a.tmps)=true then Oper.wp P o a w K' Q else K' (a.put o.dst undef) w) :
  wAT P md ops Q S (fuel+1) L a w:=by
 refine⟨fun h0=>(by rw[hr]at h0;cases h0),fun j hj=>?_⟩
 rw[hr]at hj
 obtain rfl:=List.mem_singleton.1 hj
 have hD':=hD.set (i:=j) (by rw[hr];simp)
 exact wpOp_step ho (fun K' hK=>h K' (fun a w hS hW=>hK a w ⟨hS,hW hD' hS⟩))
theorem putL:(∀(a:Act) (d:Tmp) (v:Value),a.put (some d) v={ a with tmps:=a.tmps.setIfInBounds d v })∧(∀(a:Act) (v:Value),a.put none v=a)∧(∀{α:Type} (l:List α) (i:Nat) (x:α),l.toArray.setIfInBounds i x=(l.set i x).toArray)∧(∀{α:Type} (y:α) (l:List α) (x:α),(y::l).set 0 x=x::l)∧(∀{α:Type} (y:α) (l:List α) (i:Nat) (x:α),(y::l).set (i+1) x=y::l.set i x)∧(∀{α:Type} (l:List α) (i:Nat) (h:i<l.toArray.size),l.toArray[i]=l[i]'(by simpa using h))∧(∀{α:Type} (y:α) (l:List α) (i:Nat) (h:i+1<(y::l).length),(y::l)[i+1]=l[i]'(by simpa using h))∧(∀{α:Type} (y:α) (l:List α) (h:0<(y::l).length),(y::l)[0]=y):=
 ⟨fun _ _ _=>rfl,fun _ _=>rfl,fun _ _ _=>by simp,fun _ _ _=>rfl,fun _ _ _ _=>rfl,fun _ _ _=>rfl,fun _ _ _ _=>rfl,fun _ _ _=>rfl⟩
theorem setL:(∀(a:Act) (d:Tmp) (v:Value),a.put (some d) v={ a with tmps:=a.tmps.setIfInBounds d v })∧(∀(a:Act) (v:Value),a.put none v=a)∧(∀{α:Type} (l:List α) (i:Nat) (x:α),l.toArray.setIfInBounds i x=(l.set i x).toArray)∧(∀{α:Type} (y:α) (l:List α) (x:α),(y::l).set 0 x=x::l)∧(∀{α:Type} (y:α) (l:List α) (i:Nat) (x:α),(y::l).set (i+1) x=y::l.set i x):=
 ⟨fun _ _ _=>rfl,fun _ _=>rfl,fun _ _ _=>by simp,fun _ _ _=>rfl,fun _ _ _ _=>rfl⟩
theorem Shut.o{p:Prop}(h:Shut p):p:=h
theorem tk(i:Nat)(v:Value){oi:Oper}{fuel:Nat}{L:Array Bool}{a:Act}{w:World}(hD:Disc md ops L)(hy:∀ w,Held md ops S i w→(execOp a.eval oi).run P w=.ok (.value v) w)(hS:S L w)
  (h:Disc md ops (L.setIfInBounds i true)→S (L.setIfInBounds i true) w→wAT P md ops Q S fuel (L.setIfInBounds i true) (a.put oi.dst v) w)
  (hi:ops[i]?=some oi:=by rfl) (hs:Region.noSelect ops=true:=by kernel_rfl) (hf:Region.free md ops L i=true:=by kernel_rfl) (hr:(Region.ready md ops L).contains i=true:=by kernel_rfl)
  (hQ:∀ c a w,Q (.panic c) (a.put oi.dst v) w→Q (.panic c) a w:=by exact fun _ _ _ h=>h)
  (hS1:∀ L W,S L W→S (L.setIfInBounds i true) W:=by first | exact fun _ _ h=>h | exact fun _ _=>(SItems.set (by decide)).1 | exact fun _ _=>(SC2.set (by decide)).1 | exact fun _ _=>(SCell.set (by decide)).1 | exact fun _ _=>(SStore.set (by decide)).1 | exact fun _ _=>(SO.set (by decide)).1 | exact fun _ _=>(SB.set (by decide)).1 | exact fun _ _=>Sag.s1 (by decide))
  (hS2:∀ L W,S (L.setIfInBounds i true) W→S L W:=by first | exact fun _ _ h=>h | exact fun _ _=>(SItems.set (by decide)).2 | exact fun _ _=>(SC2.set (by decide)).2 | exact fun _ _=>(SCell.set (by decide)).2 | exact fun _ _=>(SStore.set (by decide)).2 | exact fun _ _=>(SO.set (by decide)).2 | exact fun _ _=>(SB.set (by decide)).2 | exact fun _ _=>Sag.s2 (by decide))
  (hw:Region.wanted oi (yielded ops a.tmps)=true:=by rfl):wAT P md ops Q S (fuel+1) L a w:=
 wATt hi hs hf hr hQ hS1 hS2 hD (Or.inl ⟨hw,hy⟩) hS h
theorem ti(i:Nat)(v:Value){oi:Oper}{fuel:Nat}{L:Array Bool}{a:Act}{w:World}(hD:Disc md ops L)(hS:S L w)
  (h:Disc md ops (L.setIfInBounds i true)→S (L.setIfInBounds i true) w→wAT P md ops Q S fuel (L.setIfInBounds i true) (a.put oi.dst v) w)
  (hi:ops[i]?=some oi:=by rfl) (hs:Region.noSelect ops=true:=by kernel_rfl) (hf:Region.free md ops L i=true:=by kernel_rfl) (hr:(Region.ready md ops L).contains i=true:=by kernel_rfl)
  (hQ:∀ c a w,Q (.panic c) (a.put oi.dst v) w→Q (.panic c) a w:=by exact fun _ _ _ h=>h)
  (hS1:∀ L W,S L W→S (L.setIfInBounds i true) W:=by first | exact fun _ _ h=>h | exact fun _ _=>(SItems.set (by decide)).1 | exact fun _ _=>(SC2.set (by decide)).1 | exact fun _ _=>(SCell.set (by decide)).1 | exact fun _ _=>(SStore.set (by decide)).1 | exact fun _ _=>(SO.set (by decide)).1 | exact fun _ _=>(SB.set (by decide)).1 | exact fun _ _=>Sag.s1 (by decide))
  (hS2:∀ L W,S (L.setIfInBounds i true) W→S L W:=by first | exact fun _ _ h=>h | exact fun _ _=>(SItems.set (by decide)).2 | exact fun _ _=>(SC2.set (by decide)).2 | exact fun _ _=>(SCell.set (by decide)).2 | exact fun _ _=>(SStore.set (by decide)).2 | exact fun _ _=>(SO.set (by decide)).2 | exact fun _ _=>(SB.set (by decide)).2 | exact fun _ _=>Sag.s2 (by decide))
  (hw:Region.wanted oi (yielded ops a.tmps)=true:=by rfl)
  (hy:∀ w,Held md ops S i w→(execOp a.eval oi).run P w=.ok (.value v) w:=by intro W hW;go_simp;try(with_reducible rfl)):wAT P md ops Q S (fuel+1) L a w:=
 wATt hi hs hf hr hQ hS1 hS2 hD (Or.inl ⟨hw,hy⟩) hS h
theorem tu(i:Nat){oi:Oper}{fuel:Nat}{L:Array Bool}{a:Act}{w:World}(hD:Disc md ops L)(hS:S L w)
  (h:Disc md ops (L.setIfInBounds i true)→S (L.setIfInBounds i true) w→wAT P md ops Q S fuel (L.setIfInBounds i true) (a.put oi.dst undef) w)
  (hi:ops[i]?=some oi:=by rfl) (hs:Region.noSelect ops=true:=by kernel_rfl) (hf:Region.free md ops L i=true:=by kernel_rfl) (hr:(Region.ready md ops L).contains i=true:=by kernel_rfl)
  (hQ:∀ c a w,Q (.panic c) (a.put oi.dst undef) w→Q (.panic c) a w:=by exact fun _ _ _ h=>h)
  (hS1:∀ L W,S L W→S (L.setIfInBounds i true) W:=by first | exact fun _ _ h=>h | exact fun _ _=>(SItems.set (by decide)).1 | exact fun _ _=>(SC2.set (by decide)).1 | exact fun _ _=>(SCell.set (by decide)).1 | exact fun _ _=>(SStore.set (by decide)).1 | exact fun _ _=>(SO.set (by decide)).1 | exact fun _ _=>(SB.set (by decide)).1 | exact fun _ _=>Sag.s1 (by decide))
  (hS2:∀ L W,S (L.setIfInBounds i true) W→S L W:=by first | exact fun _ _ h=>h | exact fun _ _=>(SItems.set (by decide)).2 | exact fun _ _=>(SC2.set (by decide)).2 | exact fun _ _=>(SCell.set (by decide)).2 | exact fun _ _=>(SStore.set (by decide)).2 | exact fun _ _=>(SO.set (by decide)).2 | exact fun _ _=>(SB.set (by decide)).2 | exact fun _ _=>Sag.s2 (by decide))
  (hw:Region.wanted oi (yielded ops a.tmps)=false:=by rfl):wAT P md ops Q S (fuel+1) L a w:=
 wATt hi hs hf hr hQ hS1 hS2 hD (Or.inr ⟨hw,rfl⟩) hS h
theorem on(i:Nat){o:Oper}{fuel:Nat}{L:Array Bool}{a:Act}{w:World}(hD:Disc md ops L)
  (h:∀ K':Act→World→Prop,Shut (∀ a w,S (L.setIfInBounds i true) w→(Disc md ops (L.setIfInBounds i true)→S (L.setIfInBounds i true) w→wAT P md ops Q S fuel (L.setIfInBounds i true) a w)→K' a w)→if Region.wanted o (yielded ops a.tmps)=true then Oper.wp P o a w K' Q else K' (a.put o.dst undef) w)
  (hr:Region.ready md ops L=[i]:=by kernel_rfl) (ho:ops[i]?=some o:=by rfl):wAT P md ops Q S (fuel+1) L a w:=
 wATo hr ho hD h
theorem wATd{L:Array Bool}{a:Act}{w:World}(hr:Region.ready md ops L=[])(h:Q .normal a w):∀ fuel,wAT P md ops Q S fuel L a w
 |0=>⟨hr,h⟩
 |_+1=>⟨fun _=>h,by rw[hr];simp⟩
theorem wrT{id:Nat}{a:Act}{w:World}(S:Array Bool→World→Prop)(hm:P.follows .mixedOrders=true)
  (h:Disc .any ops (Array.replicate ops.size false)→wAT P .any ops Q S ops.size (Array.replicate ops.size false) a w.drew):(Code.region id ops true).wp P Q a w:=
 wp_region_any hm (wAoT _ _ _ _ (h (Disc.start _)))
end
end
section
open Go.RowKit
theorem seCb(b:Nat)(t:TypeId)(fz:Nat × Nat):∀(vs:List Value) (o:Nat) (w:World) (C:Array Value),w.heap[b]?=some (.cells C t fz) →
  ∃ R:Array Value,(w.setCells b o vs).heap[b]?=some (.cells R t fz)∧R.size=C.size∧∀ j,R[j]?=if o≤j∧j<o+vs.length∧j<C.size then vs[j-o]? else C[j]?
 | [],o,w,C,h=>⟨C,h,rfl,fun j=>by rw[if_neg (by simp;omega)]⟩
 |v::vs,o,w,C,h=>by
  obtain⟨R,h1,h2,h3⟩:=seCb b t fz vs (o+1) (w.setCell ⟨b,o,none⟩ v) (C.setIfInBounds o v) (bsC v h)
  refine⟨R,h1,by rw[h2];simp,fun j=>?_⟩
  rw[h3 j,Array.size_setIfInBounds]
  by_cases c1:o+1≤j∧j<o+1+vs.length∧j<C.size
  ·rw[if_pos c1,if_pos (by simp;omega),show j-o=(j-(o+1))+1 by omega,List.getElem?_cons_succ]
  ·rw[if_neg c1]
   by_cases c2:o=j
   ·subst c2
    by_cases c3:o<C.size
    ·rw[if_pos (by simp;omega)];simp[c3]
    ·rw[if_neg (by omega)];simp[c3]
   ·rw[if_neg (by simp;omega),Array.getElem?_setIfInBounds_ne c2]
theorem sCw{w:World}{b:Nat}{t:TypeId}{fz:Nat × Nat}{C:Array Value}{vs:List Value}(h:w.heap[b]?=some (.cells C t fz))(hs:C.size=vs.length):(w.setCells b 0 vs).heap[b]?=some (.cells vs.toArray t fz):=by
 obtain⟨R,h1,h2,h3⟩:=seCb b t fz vs 0 w C h
 rw[h1]
 congr 2
 apply Array.ext (by simp[h2,hs])
 intro i hi1 hi2
 have:=h3 i
 rw[if_pos ⟨by omega,by omega,by omega⟩,Nat.sub_zero]at this
 have h4:i<vs.length:=by simpa using hi2
 rw[Array.getElem?_eq_getElem hi1,List.getElem?_eq_getElem h4]at this
 simpa using this
theorem sCn(b:Nat){k:Nat}(hk:k≠b):∀(vs:List Value) (o:Nat) (w:World),(w.setCells b o vs).heap[k]?=w.heap[k]?
 | [],_,_=>rfl
 |v::vs,o,w=>by
  show((w.setCell ⟨b,o,none⟩ v).setCells b (o+1) vs).heap[k]?=_
  rw[sCn b hk vs (o+1),bsCn _ hk]
theorem sCb(b B:Nat)(hb:B≤b):∀(vs:List Value) (o:Nat) (a w:World),Below B a w→Below B a (w.setCells b o vs)
 | [],_,_,_,h=>h
 |v::vs,o,a,w,h=>sCb b B hb vs (o+1) a _ (h.setCell hb v)
end
end Go
