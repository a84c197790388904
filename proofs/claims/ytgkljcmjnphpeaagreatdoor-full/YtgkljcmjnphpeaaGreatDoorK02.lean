import Derived.Test.YtgkljcmjnphpeaaGreatDoorK01
import Derived.StillTailTactics
import Derived.Deep.AppendSrc
set_option linter.unusedVariables false
set_option linter.unusedSimpArgs false
set_option maxHeartbeats 1000000
set_option maxRecDepth 100000
namespace Go.Proofs.YtgkljcmjnphpeaaGreatDoor
open Go.RowKit
section
variable{w:World}
structure Wq(B bw T:Nat)(rest:List Value)(w:World)(ov:Value)(out:List Nat)(used:Nat):Prop where
 hb:B≤bw
 hT:T ≠ 5
 blk:w.heap[bw]?=some (.cells (ov::.int .i64 used::rest).toArray T (0,0))
 own:w.ownsRow B 5 1 ov out.length (out.map fun x:Nat=>.int .u8 (x:Int))
structure Wr(B bw T:Nat)(rest:List Value)(w:World)(bs:List Bool)(ov:Value)(out:List Nat)(used:Nat):Prop where
 q:Wq B bw T rest w ov out used
 bits:Fo.BW out used bs
variable{B bw T:Nat}{rest:List Value}{ov:Value}{out:List Nat}{used:Nat}{bs:List Bool}
theorem Wq.c0(h:Wq B bw T rest w ov out used):w.cell? ⟨bw,0,none⟩=some ov:=by rw[ceb h.blk];simp
theorem Wq.c1(h:Wq B bw T rest w ov out used):w.cell? ⟨bw,1,none⟩=some (.int .i64 used):=by rw[ceb h.blk];simp
theorem Wq.fz(h:Wq B bw T rest w ov out used)(i:Nat):w.frozen? ⟨bw,i,none⟩=false:=frb h.blk
theorem Wq.drew(h:Wq B bw T rest w ov out used):Wq B bw T rest w.drew ov out used:=⟨h.hb,h.hT,h.blk,h.own⟩
theorem Wr.drew(h:Wr B bw T rest w bs ov out used):Wr B bw T rest w.drew bs ov out used:=⟨h.q.drew,h.bits⟩
theorem Wq.sz(h:Wq B bw T rest w ov out used):B<w.heap.size:=by have:=h.hb;have:=lt_of_block h.blk;omega
theorem Wq.set1(h:Wq B bw T rest w ov out used)(u:Nat):Wq B bw T rest (w.setCell ⟨bw,1,none⟩ (.int .i64 u)) ov out u:=by
 refine⟨h.hb,h.hT,?_,?_⟩
 ·rw[bsC _ h.blk];simp
 ·exact ownsRow_setCell_other h.own (own_ne h.own h.blk h.hT) _
theorem owf{w:World}{B e n size:Nat}{v:Value}{xs:List Value}(h:w.ownsRow B e size v n xs)(hn:0<n):∃ g c,v=.slice (some ⟨g,0,none⟩) n c∧B≤g:=by
 rcases h.2 with⟨_,h0⟩ | ⟨g,cap,cur,hv,hb,_⟩
 ·omega
 ·exact⟨g,cap,hv,hb⟩
theorem bwl(h:Fo.BW out used bs):out.length=(bs.length+7)/8:=by
 obtain⟨h1,h2,_,h4⟩:=h
 have:=congrArg List.length h4
 rw[Fo.bitsOf_length,List.length_append,List.length_replicate]at this
 omega
theorem Wq.put{g c:Nat}{pre:List Nat}{last:Nat}(h:Wq B bw T rest w (.slice (some ⟨g,0,none⟩) (pre++[last]).length c) (pre++[last]) used)(x u:Nat) :
  Wq B bw T rest ((w.setCell ⟨g,pre.length,none⟩ (.int .u8 x)).setCell ⟨bw,1,none⟩ (.int .i64 u)).drew (.slice (some ⟨g,0,none⟩) (pre++[x]).length c) (pre++[x]) u∧Kept 5 B [bw] w ((w.setCell ⟨g,pre.length,none⟩ (.int .u8 x)).setCell ⟨bw,1,none⟩ (.int .i64 u)).drew:=by
 have hne:bw≠g:=fun e=>own_ne h.own h.blk h.hT (by rw[e];rfl)
 obtain⟨hBg,cur,fz,hrow⟩:=owr h.own g rfl
 refine⟨Wq.drew ⟨h.hb,h.hT,?_,?_⟩,Kept.drew ?_⟩
 ·have h1:(w.setCell ⟨g,pre.length,none⟩ (.int .u8 x)).heap[bw]?=some (.cells (Value.slice (some ⟨g,0,none⟩) (pre++[last]).length c::.int .i64 used::rest).toArray T (0,0)):=by rw[bsCn _ hne];exact h.blk
  rw[bsC _ h1];simp
 ·have h2:=h.own.stored pre.length (.int .u8 x)
  have e1:(((pre++[last]).map fun x:Nat=>Value.int .u8 (x:Int)).set pre.length (.int .u8 x))=((pre++[x]).map fun x:Nat=>Value.int .u8 (x:Int)):=by
   simp[List.set_append]
  rw[e1]at h2
  have e2:(pre++[last]).length=(pre++[x]).length:=by simp
  rw[e2]at h2
  exact ownsRow_setCell_other h2.1 (by simp[Value.ownBlock];omega) _
 ·refine Kept.setCell ?_ (by simp) _
  refine⟨rfl,rfl,rfl,by simp[World.setCell],fun k o hk ho hc=>?_⟩
  rw[bsCn _ (fun e=>?_)]
  ·exact ho
  ·subst e
   rw[hrow]at ho
   rcases hc with hc | hc
   ·omega
   ·exact hc cur fz (Option.some.inj ho).symm
theorem Wq.app{w1:World}{v:Value}{xs:List Nat}(h:Wq B bw T rest w ov out used)
  (hown:w1.ownsRow B 5 1 v (out.length+xs.length) ((out.map fun x:Nat=>.int .u8 (x:Int))++(xs.map fun x:Nat=>.int .u8 (x:Int)))) (hg:w.grownBy w1 ov.ownBlock) :
  Wq B bw T rest (w1.setCell ⟨bw,0,none⟩ v) v (out++xs) used∧Kept 5 B [bw] w (w1.setCell ⟨bw,0,none⟩ v)∧w1.cell? ⟨bw,0,none⟩=some ov∧w1.frozen? ⟨bw,0,none⟩=false:=by
 have hk:w1.heap[bw]?=some (.cells (ov::.int .i64 used::rest).toArray T (0,0)):=by
  rw[hg.block bw (lt_of_block h.blk) (fun c=>own_ne h.own h.blk h.hT c.symm)];exact h.blk
 refine⟨⟨h.hb,h.hT,?_,?_⟩,((Kept.refl 5 B [bw] w).grown hg (owr h.own)).setCell (by simp) _,by rw[ceb hk];simp,frb hk⟩
 ·rw[bsC _ hk];simp
 ·rw[List.length_append,List.map_append]
  exact ownsRow_setCell_other hown (own_ne hown hk h.hT) _
theorem Wq.alloc(h:Wq B bw T rest w ov out used)(o:Obj):Wq B bw T rest (w.alloc o) ov out used:=⟨h.hb,h.hT,bla _ h.blk,h.own.alloc _⟩
theorem Wr.alloc(h:Wr B bw T rest w bs ov out used)(o:Obj):Wr B bw T rest (w.alloc o) bs ov out used:=⟨h.q.alloc o,h.bits⟩
theorem orb(x u:Nat)(b:Bool)(hx:x<256)(hu:u<8):bits .or .u8 (x:Int) (wrap64 ((b.toNat:Int)*2^u)%256)=((x ||| (b.toNat <<< u):Nat):Int):=by
 have h1:2^u≤2^7:=Nat.pow_le_pow_right (by omega) (by omega)
 have h2:b.toNat*2^u≤1*2^u:=Nat.mul_le_mul_right _ (by cases b<;>decide)
 have e:((b.toNat:Int)*2^u)=((b.toNat*2^u:Nat):Int):=by rw[Int.natCast_mul,Int.natCast_pow];rfl
 rw[e,wrn _ (by omega),show(((b.toNat*2^u:Nat):Int)%256)=((b.toNat*2^u:Nat):Int)by omega,u8_or_nat x _ hx (by omega),Nat.shiftLeft_eq]
theorem wbm{g c:Nat}{pre:List Nat}{last:Nat}(h:Wq B bw T rest w (.slice (some ⟨g,0,none⟩) (pre++[last]).length c) (pre++[last]) used)(hu:0<used)(hu8:used<8)(hlast:last<256)(hlo:pre.length≤1099511627776)(b:Bool) :
  Calls Tryz.prog 262 #[.pointer (some ⟨bw,0,none⟩),.int .i64 (b.toNat:Nat)] w fun e w'=>e=.returned (.tuple #[])∧∃ ov',Wq B bw T rest w' ov' (pre++[last ||| b.toNat <<< used]) ((used+1)%8)∧Kept 5 B [bw] w w':=by
 have c0:=h.c0
 have c1:=h.c1
 have f1:=h.fz 1
 have hcell:=h.own.cellAt pre.length (by simp)
 have hfz:=h.own.frozenAt pre.length
 have hlen:(pre++[last]).length=pre.length+1:=by simp
 rw[hlen]at c0
 have e1:((used:Int)==0)=false:=by simp;omega
 have hc2:w.cell? ⟨g,pre.length,none⟩=some (.int .u8 last):=by rw[hcell];simp
 have hne:bw≠g:=fun e=>own_ne h.own h.blk h.hT (by rw[e];rfl)
 have hne':g≠bw:=fun e=>hne e.symm
 have HP:=hide (h.put (last ||| b.toNat <<< used) ((used+1)%8))
 have ho:=hide (orb last used b hlast hu8)
 have hb1:b.toNat≤1:=by cases b<;>decide
 clear hcell h hlen
 go_enter Tryz.func262,Tryz.ntmps262
 go_wp2_with fail
 go_region
 all_goals go_wp2
 all_goals (go_end0;rw[ho.o,show((used:Int)+1)%8=(((used+1)%8:Nat):Int)by omega];exact⟨rfl,_,HP.o.1,HP.o.2⟩)
theorem wbf(h:Wq B bw T rest w ov out 0)(hlo:out.length≤1099511627776)(b:Bool) :
  Calls Tryz.prog 262 #[.pointer (some ⟨bw,0,none⟩),.int .i64 (b.toNat:Nat)] w fun e w'=>e=.returned (.tuple #[])∧∃ ov',Wq B bw T rest w' ov' (out++[b.toNat]) 1∧Kept 5 B [bw] w w':=by
 obtain⟨i0,hi,hz0,hz1,hz2⟩:=info_parts Tryz.infoByte
 have c0:=h.c0
 have c1:=h.c1
 have hs:=h.sz
 go_enter Tryz.func262,Tryz.ntmps262
 go_wp2_with (at_builtin;refine wpList_append_own _ rfl (.tmp 13) (.tmp 14) 23 rfl B 5 i0 (.int .u8 0) 1 1 Tryz.underlying23 hi hz0 hz1 hz2 rfl (by decide) ov out.length _ rfl (h.alloc _).own ⟨w.heap.size,0,none⟩ 1 1 [.int .u8 0] rfl (by simp) ?hnews ?hone ?h63 ?hby ?hbs ?_)
 case hnews =>
  intro j u hu
  have hj:j<1:=by have:=(List.getElem?_eq_some_iff.1 hu).1;simpa using this
  obtain rfl:j=0:=by omega
  show(w.alloc _).cell? ⟨w.heap.size,0+0,none⟩=_
  rw[World.cell?_alloc_new];simpa using hu
 case hone=>intro u hu;simp at hu;subst hu;rfl
 case h63=>unfold maxLen;omega
 case hby=>omega
 case hbs=>simp;omega
 intro v' w1 hown hg0 _
 obtain⟨q,k,d0,f0⟩:=(h.alloc _).app (xs:=[0]) hown ⟨hg0.os,hg0.tape,hg0.output,hg0.size,hg0.block⟩
 have k0:=hide (((Kept.refl 5 B [bw] w).alloc _).trans k)
 clear hg0 k
 have hlen:(out++[0]).length=out.length+1:=by simp
 obtain⟨g,c,hv,hBg⟩:=owf q.own (by simp)
 rw[hlen]at hv
 subst hv
 go_wp2_with fail
 clear c0 c1 hown d0 f0 hz0 hz1 hz2 hi h
 generalize hW:w1.setCell ⟨bw,0,none⟩ _=w2 at *
 clear hW
 have c0:=q.c0
 have c1:=q.c1
 have f1:=q.fz 1
 rw[←hlen]at q
 have hcell:=q.own.cellAt out.length (by simp)
 have hfz:=q.own.frozenAt out.length
 have hc2:w2.cell? ⟨g,out.length,none⟩=some (.int .u8 0):=by rw[hcell];simp
 have hne:bw≠g:=fun e=>own_ne q.own q.blk q.hT (by rw[e];rfl)
 have hne':g≠bw:=fun e=>hne e.symm
 have HP:=hide (q.put b.toNat 1)
 have ho:=hide (orb 0 0 b (by omega) (by omega))
 have hb1:b.toNat≤1:=by cases b<;>decide
 clear hcell q hlen
 go_region
 all_goals go_wp2
 all_goals go_end0
 have e0:bits .or .u8 0 (b.toNat:Int)=(b.toNat:Nat):=by cases b<;>decide
 rw[e0]
 exact⟨rfl,_,HP.o.1,k0.o.trans HP.o.2⟩
def Wx(B bw T:Nat)(rest:List Value)(w:World)(bs:List Bool):Prop:=∃ ov out used,Wr B bw T rest w bs ov out used
theorem Wx.drew(h:Wx B bw T rest w bs):Wx B bw T rest w.drew bs:=by obtain⟨a,b,c,d⟩:=h;exact⟨a,b,c,d.drew⟩
theorem Wx.alloc(h:Wx B bw T rest w bs)(o:Obj):Wx B bw T rest (w.alloc o) bs:=by obtain⟨a,b,c,d⟩:=h;exact⟨a,b,c,d.alloc o⟩
theorem wo_1(h:Wx B bw T rest w bs)(hl:bs.length≤1099511627776)(b:Bool) :
  Calls Tryz.prog 262 #[.pointer (some ⟨bw,0,none⟩),.int .i64 (b.toNat:Nat)] w fun e w'=>e=.returned (.tuple #[])∧Wx B bw T rest w' (bs++[b])∧Kept 5 B [bw] w w':=by
 obtain⟨ov,out,used,hq,hb⟩:=h
 have hn:=bwl hb
 by_cases h0:used=0
 ·subst h0
  refine(wbf hq (by omega) b).mono ?_
  rintro e w' ⟨rfl,ov',q',k⟩
  exact⟨rfl,⟨ov',_,_,q',hb.bit0 b⟩,k⟩
 ·have hpos:0<out.length:=by
   have:=hb.2.1
   omega
  obtain⟨pre,last,rfl⟩:∃ pre last,out=pre++[last]:=⟨out.dropLast,out.getLast (by intro e;rw[e]at hpos;simp at hpos),(List.dropLast_concat_getLast _).symm⟩
  obtain⟨g,c,rfl,_⟩:=owf hq.own hpos
  have hlast:last<256:=hb.2.2.1 last (by simp)
  refine(wbm hq (by omega) hb.1 hlast (by simp at hn;omega) b).mono ?_
  rintro e w' ⟨rfl,ov',q',k⟩
  exact⟨rfl,⟨ov',_,_,q',hb.bit (by omega) b⟩,k⟩
end
def sG(d:List Nat):Nat→Nat→Nat
 |0,p=>p
 |f+1,p=>if p<d.length∧whB (nth d p)=true then sG d f (p+1)else p
def skipW(d:List Nat)(p:Nat):Nat:=sG d (d.length-p) p
theorem skGl(d:List Nat):∀ f p,p≤d.length→sG d f p≤d.length
 |0,p,h=>h
 |f+1,p,h=>by
  unfold sG
  split
  ·rename_i c;exact skGl d f (p+1) (by omega)
  ·exact h
theorem sWl{d:List Nat}{p:Nat}(h:p≤d.length):skipW d p≤d.length:=skGl d _ p h
theorem skWs{d:List Nat}{p:Nat}(h:p<d.length)(hw:whB (nth d p)=true):skipW d p=skipW d (p+1):=by
 unfold skipW
 obtain⟨f,hf⟩:∃ f,d.length-p=f+1:=⟨d.length-p-1,by omega⟩
 rw[hf,show d.length-(p+1)=f by omega]
 conv=>lhs;unfold sG
 rw[if_pos ⟨h,hw⟩]
theorem sWs{d:List Nat}{p:Nat}(h:¬ (p<d.length∧whB (nth d p)=true)):skipW d p=p:=by
 unfold skipW
 cases d.length-p with
 |zero=>rfl
 |succ f=>unfold sG;rw[if_neg h]
def bl(S:ByteArray):List Nat:=S.data.toList.map UInt8.toNat
theorem bll(S:ByteArray):(bl S).length=S.size:=by
 rw[bl,List.length_map,Array.length_toList];rfl
theorem bn_(S:ByteArray)(i:Nat)(h:i<S.size):(S[i]'h).toNat=nth (bl S) i:=by
 have h2:i<S.data.size:=h
 simp only[bl,nth,List.getD_eq_getElem?_getD,List.getElem?_map]
 rw[List.getElem?_eq_getElem (by simpa using h2)]
 simp;rfl
theorem bl_lt(S:ByteArray)(i:Nat)(h:i<S.size):nth (bl S) i<256:=by
 rw[←bn_ S i h];exact UInt8.toNat_lt _
def gU(n:Int):Ending:=.panicked [{ v:=.iface 58 (.int .i64 n),recovered:=false }]
theorem who(c:Nat)(w:World):Calls Tryz.prog 250 #[.int .u8 c] w fun e w'=>e=.returned (.bool (whB c))∧w'=w:=by
 have e:((c:Int)==0||(c:Int)==9||(c:Int)==10||(c:Int)==12||(c:Int)==13||(c:Int)==32)=whB c:=by
  rw[Bool.eq_iff_iff]
  simp[whB];omega
 have:=iw c w
 rw[e]at this
 exact this
theorem heDn(c:Nat)(w:World)(h:Fo.hexVal c=none):Calls Tryz.prog 275 #[.int .u8 c] w fun e w'=>∃ v,e=.returned (.tuple #[.int .u8 v,.bool false])∧w'=w:=by
 unfold Fo.hexVal at h
 by_cases h1:48≤c∧c≤57
 ·rw[if_pos h1]at h;cases h
 rw[if_neg h1]at h
 by_cases h2:97≤c∧c≤102
 ·rw[if_pos h2]at h;cases h
 rw[if_neg h2]at h
 by_cases h3:65≤c∧c≤70
 ·rw[if_pos h3]at h;cases h
 have n1:(decide ((48:Int)≤(c:Int))&&decide ((c:Int)≤57))=false:=by simp;omega
 have n2:(decide ((97:Int)≤(c:Int))&&decide ((c:Int)≤102))=false:=by simp;omega
 have n3:(decide ((65:Int)≤(c:Int))&&decide ((c:Int)≤70))=false:=by simp;omega
 clear h h1 h2 h3
 go_enter Tryz.func275,Tryz.ntmps275
 go_wp2_with (go_at_call 216;refine(wib _ _ _ _).mono ?_;rintro e w' ⟨rfl,rfl⟩)
 go_ret2
 exact⟨_,rfl,rfl⟩
theorem hVl{c a:Nat}(h:Fo.hexVal c=some a):a<16:=by
 unfold Fo.hexVal at h
 split at h
 ·cases h;omega
 split at h
 ·cases h;omega
 split at h
 ·cases h;omega
 ·cases h
theorem bt_(S:ByteArray)(k:Nat):bl (S.extract k S.size)=(bl S).drop k:=by
 unfold bl
 rw[ByteArray.data_extract,Array.toList_extract,List.extract_eq_take_drop,List.map_take,List.map_drop]
 rw[List.take_of_length_le (by rw[List.length_drop,List.length_map,Array.length_toList];exact Nat.le_refl _)]
theorem bp(S:ByteArray)(k n:Nat)(h:k+n≤S.size):bl (S.extract k (k+n))=((bl S).drop k).take n:=by
 unfold bl
 rw[ByteArray.data_extract,Array.toList_extract,List.extract_eq_take_drop,List.map_take,List.map_drop]
 rw[show k+n-k=n by omega]
theorem ap(b o i:Nat):(⟨b,o,none⟩:Addr).add i=⟨b,o+i,none⟩:=by unfold Addr.add;split<;>simp_all
theorem oo_{w:World}{B e n size k:Nat}{v:Value}{xs:List Value}(h:w.ownsRow B e size v n xs)(hk:k<B):some k≠v.ownBlock:=fun he=>absurd (h.lt k he.symm).1 (by omega)
theorem Dat.below{w:World}{B:Nat}{ao:Option Addr}{l:List Nat}{w':World}(h:Dat w B ao l)(b:Below w.heap.size w w'):Dat w' B ao l:=by
 intro i hi
 obtain⟨c,o,h1,h2,h3⟩:=h i hi
 exact⟨c,o,h1,h2,(b.cell (p:=⟨c,o+i,none⟩) (World.block_lt_of_cell? w _ h3)).trans h3⟩
theorem Dat.other{w w':World}{B:Nat}{ao:Option Addr}{l:List Nat}(h:Dat w B ao l)(hb:∀ k,k<B→w'.heap[k]?=w.heap[k]?):Dat w' B ao l:=by
 intro i hi
 obtain⟨b,o,h1,h2,h3⟩:=h i hi
 exact⟨b,o,h1,h2,by rw[World.cell?_of_block (w:=w) (hb b h2)];exact h3⟩
theorem owb{B:Nat}{e:TypeId}{k:Nat}{v:Value}{n:Nat}{xs:List Value}{w w':World}(h:w.ownsRow B e k v n xs)(b:Below w.heap.size w w'):w'.ownsRow B e k v n xs:=by
 obtain⟨h1,h2⟩:=h
 refine⟨h1,?_⟩
 rcases h2 with h2 | ⟨g,c,cur,e1,e2,hh,hc⟩
 ·exact Or.inl h2
 ·exact Or.inr ⟨g,c,cur,e1,e2,by rw[b.block _ (lt_of_block hh)];exact hh,hc⟩
def markB(c:Nat):Bool:=c==40||c==41||c==60||c==62||c==91||c==93||c==123||c==125||c==47||c==37
def pB(c:Nat):Bool:= !whB c && !markB c
namespace Fo
def skipC:Bool→List Nat→List Nat
 |_,[]=>[]
 |false,b::r=>if whB b then skipC false r else if b=37 then skipC true r else b::r
 |true,b::r=>if b=10∨b=13 then skipC false r else skipC true r
def skip(r:List Nat):List Nat:=skipC false r
def skipLine:List Nat→List Nat
 | []=>[]
 |b::r=>if b=10∨b=13 then b::r else skipLine r
def takes(s r:List Nat):Option (List Nat):=if s.isPrefixOf r then some (r.drop s.length)else none
def wordOf(r:List Nat):List Nat:=(skip r).takeWhile pB
def wordRest(r:List Nat):List Nat:=(skip r).dropWhile pB
def takesWord(s r:List Nat):Option (List Nat):=if wordOf r=s then some (wordRest r)else none
def lineEnd(r:List Nat):Option (List Nat):=(takes [13,10] r).or ((takes [10] r).or (takes [13] r))
theorem sCl:∀(b:Bool) (r:List Nat),(skipC b r).length≤r.length
 |b,[]=>by cases b<;>simp[skipC]
 |false,x::r=>by
  simp only[skipC]
  have h1:=sCl false r
  have h2:=sCl true r
  split
  ·simp only[List.length_cons];omega
  ·split
   ·simp only[List.length_cons];omega
   ·exact Nat.le_refl _
 |true,x::r=>by
  simp only[skipC]
  have h1:=sCl false r
  have h2:=sCl true r
  split<;>simp only[List.length_cons]<;>omega
theorem skip_len(r:List Nat):(skip r).length≤r.length:=sCl false r
theorem skipLine_len:∀ r:List Nat,(skipLine r).length≤r.length
 | []=>Nat.le_refl _
 |b::r=>by
  have:=skipLine_len r
  simp only[skipLine]
  split
  ·exact Nat.le_refl _
  ·simp only[List.length_cons];omega
theorem skCl:∀ r:List Nat,skipC true r=skipC false (skipLine r)
 | []=>rfl
 |b::r=>by
  simp only[skipC,skipLine]
  by_cases h:b=10∨b=13
  ·rw[if_pos h,if_pos h]
   have hw:whB b=true:=by rcases h with rfl | rfl<;>rfl
   simp only[skipC,hw,if_true]
  ·rw[if_neg h,if_neg h];exact skCl r
theorem skip_white:∀ r:List Nat,skip r=skip (r.dropWhile whB)
 | []=>rfl
 |b::r=>by
  unfold skip
  rw[List.dropWhile_cons]
  cases h:whB b
  ·rfl
  ·simp only[skipC,h,if_true]
   exact skip_white r
theorem skip_percent(r:List Nat):skip (37::r)=skip (skipLine r):=by
 unfold skip
 rw[←skCl]
 simp[skipC,show whB 37=false from rfl]
theorem skip_stop{b:Nat}{r:List Nat}(h1:whB b=false)(h2:b≠37):skip (b::r)=b::r:=by
 unfold skip
 simp[skipC,h1,h2]
theorem takes_len{s r q:List Nat}(h:takes s r=some q):q.length+s.length=r.length∧r.drop s.length=q:=by
 unfold takes at h
 by_cases hp:s.isPrefixOf r=true
 ·rw[if_pos hp]at h
  have:=(List.isPrefixOf_iff_prefix.1 hp).length_le
  cases h
  exact⟨by rw[List.length_drop];omega,rfl⟩
 ·rw[if_neg hp]at h;cases h
theorem dropWhile_len{p:Nat→Bool}(r:List Nat):(r.dropWhile p).length≤r.length:=(List.dropWhile_suffix p).length_le
end Fo
section
variable{B:Nat}{w:World}
def strN(l:List Nat):ByteArray:=⟨(l.map UInt8.ofNat).toArray⟩
theorem fsN:∀(l:List Nat) (r:ByteArray),(l.map (fun x:Nat=>(x:Int))).foldl (fun r n=>r.push (UInt8.ofNat n.toNat)) r=⟨r.data++(l.map UInt8.ofNat).toArray⟩
 | [],r=>by simp
 |b::l,r=>by
  simp only[List.map_cons,List.foldl_cons]
  rw[fsN l]
  simp[ByteArray.push]
theorem stc(a:Addr)(cap:Nat)(l:List Nat)(hc:∀ j,j<l.length→w.cell? (a.add j)=some (.int .u8 (nth l j:Nat))) :
  (convert 23 9 (.slice (some a) l.length cap)).run Tryz.prog w=.ok (.string (strN l)) w:=by
 rw[run_convert_bytes_string w 23 9 5 (some a) l.length cap Tryz.underlying23 Tryz.underlying5 Tryz.underlying9]
 have hl:=run_loadCells_list (P:= Tryz.prog) w a ((l.map (fun b:Nat=>(b:Int))).map (Value.int .u8)) (fun j v hj=>by
  have hj':j<l.length:=by
   have:=(List.getElem?_eq_some_iff.1 hj).1
   simpa using this
  rw[hc j hj']
  simp[List.getElem?_eq_getElem hj']at hj
  rw[←hj]
  simp[nth,List.getElem?_eq_getElem hj'])
 simp only[List.length_map]at hl
 rw[run_bytesToString w a l.length cap _ hl,fsN]
 have he0:ByteArray.empty.data=#[]:=rfl
 rw[he0]
 simp[strN]
theorem so_{v:Value}{l:List Nat}(h:w.ownsRow B 5 1 v l.length (l.map fun x:Nat=>.int .u8 (x:Int))) :
  (convert 23 9 v).run Tryz.prog w=.ok (.string (strN l)) w:=by
 rcases Nat.eq_zero_or_pos l.length with h0 | h0
 ·obtain⟨ao,c,rfl⟩:=ows h
  have hl:l=[]:=List.length_eq_zero_iff.1 h0
  subst hl
  cases ao with
  |none =>
   show(convert 23 9 (.slice none 0 c)).run Tryz.prog w=_
   rw[run_convert_bytes_string w 23 9 5 none 0 c Tryz.underlying23 Tryz.underlying5 Tryz.underlying9]
   rfl
  |some a=>exact stc a c [] (fun j hj=>by cases hj)
 ·obtain⟨g,c,rfl,_⟩:=owf h h0
  refine stc ⟨g,0,none⟩ c l (fun j hj=>?_)
  have hx:=h.cellAt j (by omega)
  rw[List.getElem?_map,List.getElem?_eq_getElem hj]at hx
  simp only[Option.map_some]at hx
  rw[aa]
  rw[show nth l j=l[j]by simp[nth,List.getElem?_eq_getElem hj]]
  simpa using hx
theorem sNb(S:ByteArray):strN (bl S)=S:=by
 unfold strN bl
 rw[List.map_map]
 have:(UInt8.ofNat ∘ UInt8.toNat)=id:=by funext x;simp
 rw[this,List.map_id,Array.toArray_toList]
end
section
structure Only(b:Nat)(w w':World):Prop where
 os:w'.os=w.os
 tape:w'.tape=w.tape
 output:w'.output=w.output
 size:w.heap.size≤w'.heap.size
 block:∀ k,k<w.heap.size→k≠b→w'.heap[k]?=w.heap[k]?
theorem Only.refl(b:Nat)(w:World):Only b w w:=⟨rfl,rfl,rfl,Nat.le_refl _,fun _ _ _=>rfl⟩
theorem Only.trans{b:Nat}{x y z:World}(h:Only b x y)(k:Only b y z):Only b x z:=
 ⟨k.os.trans h.os,k.tape.trans h.tape,k.output.trans h.output,Nat.le_trans h.size k.size,fun i hi hb=>(k.block i (Nat.lt_of_lt_of_le hi h.size) hb).trans (h.block i hi hb)⟩
theorem Only.of_below{b:Nat}{w w':World}(h:Below w.heap.size w w'):Only b w w':=⟨h.os,h.tape,h.output,h.size,fun i hi _=>h.block i hi⟩
theorem Only.drewN{b:Nat}{w w':World}(h:Only b w w')(n:Nat):Only b w (w'.drewN n):=⟨h.os,h.tape,h.output,h.size,h.block⟩
theorem Only.setCell{b:Nat}{w w':World}(h:Only b w w')(i:Nat)(v:Value):Only b w (w'.setCell ⟨b,i,none⟩ v):=
 h.trans ⟨rfl,rfl,rfl,by simp[World.setCell],fun k _ hb=>bsCn _ hb⟩
theorem Only.below{b B:Nat}{w w':World}(h:Only b w w')(hB:B≤w.heap.size)(hb:B≤b):Below B w w' :=
 ⟨h.os,h.tape,h.output,h.size,fun k hk=>h.block k (by omega) (by omega)⟩
structure Sc(B bs:Nat)(ao:Option Addr)(cap:Nat)(data:List Nat)(x2 x3 x4:Value)(w:World)(r:List Nat):Prop where
 hb:B≤bs
 blk:w.heap[bs]?=some (.cells #[.slice ao data.length cap,.int .i64 (data.length-r.length:Nat),x2,x3,x4] 131 (0,0))
 dat:Dat w B ao data
 byt:∀ i,i<data.length→nth data i<256
 len:data.length≤200000
 lc:data.length≤cap∧cap≤9223372036854775807
 le:r.length≤data.length
 suf:data.drop (data.length-r.length)=r
 ad:∃ bd o,ao=some ⟨bd,o,none⟩∧bd<B
variable{B bs cap:Nat}{ao:Option Addr}{data:List Nat}{x2 x3 x4:Value}{w w':World}{r q:List Nat}
theorem Sc.c0(h:Sc B bs ao cap data x2 x3 x4 w r):w.cell? ⟨bs,0,none⟩=some (.slice ao data.length cap):=ceb h.blk
theorem Sc.c1(h:Sc B bs ao cap data x2 x3 x4 w r):w.cell? ⟨bs,1,none⟩=some (.int .i64 (data.length-r.length:Nat)):=ceb h.blk
theorem Sc.fz(h:Sc B bs ao cap data x2 x3 x4 w r)(i:Nat):w.frozen? ⟨bs,i,none⟩=false:=frb h.blk
theorem Sc.lt(h:Sc B bs ao cap data x2 x3 x4 w r):bs<w.heap.size:=lt_of_block h.blk
theorem Sc.other(h:Sc B bs ao cap data x2 x3 x4 w r)(b:Below w.heap.size w w'):Sc B bs ao cap data x2 x3 x4 w' r:=
 ⟨h.hb,by rw[b.block _ h.lt];exact h.blk,h.dat.below b,h.byt,h.len,h.lc,h.le,h.suf,h.ad⟩
theorem Sc.drewN(h:Sc B bs ao cap data x2 x3 x4 w r)(n:Nat):Sc B bs ao cap data x2 x3 x4 (w.drewN n) r:=⟨h.hb,h.blk,h.dat,h.byt,h.len,h.lc,h.le,h.suf,h.ad⟩
theorem Sc.at_(h:Sc B bs ao cap data x2 x3 x4 w r)(p:Nat)(hp:p≤data.length):Sc B bs ao cap data x2 x3 x4 (w.setCell ⟨bs,1,none⟩ (.int .i64 p)) (data.drop p):=by
 have hb:=h.hb
 refine⟨h.hb,?_,?_,h.byt,h.len,h.lc,by rw[List.length_drop];omega,by rw[List.length_drop,show data.length-(data.length-p)=p by omega],h.ad⟩
 ·rw[bsC _ h.blk,List.length_drop,show data.length-(data.length-p)=p by omega];rfl
 ·intro i hi
  obtain⟨b,o,e1,e2,e3⟩:=h.dat i hi
  exact⟨b,o,e1,e2,by rw[cn _ (by show bs≠b;omega)];exact e3⟩
theorem Sc.set(h:Sc B bs ao cap data x2 x3 x4 w r)(q:List Nat)(k:Nat)(hk:r.drop k=q)(hkl:k≤r.length)(p:Nat)(hp:p=data.length-r.length+k):Sc B bs ao cap data x2 x3 x4 (w.setCell ⟨bs,1,none⟩ (.int .i64 p)) q:=by
 have hl:=h.le
 have:=h.at_ p (by omega)
 rw[hp,←List.drop_drop,h.suf,hk]at this
 rw[hp];exact this
theorem Sc.nthOf(h:Sc B bs ao cap data x2 x3 x4 w r)(i:Nat)(hi:i<r.length):nth r i=nth data (data.length-r.length+i):=by
 unfold Go.Proofs.YtgkljcmjnphpeaaGreatDoor.nth
 rw[List.getD_eq_getElem?_getD,List.getD_eq_getElem?_getD]
 conv=>lhs;rw[←h.suf]
 rw[List.getElem?_drop]
theorem Sc.cons{b:Nat}{t:List Nat}(h:Sc B bs ao cap data x2 x3 x4 w (b::t)):data.length-(b::t).length<data.length∧nth data (data.length-(b::t).length)=b∧b<256∧∃ bd o,ao=some ⟨bd,o,none⟩∧bd<B∧w.cell? ⟨bd,o+(data.length-(b::t).length),none⟩=some (.int .u8 (b:Nat)):=by
 have hl:=h.le
 have h0:=h.nthOf 0 (by simp)
 have hlt:data.length-(b::t).length<data.length:=by simp only[List.length_cons]at hl ⊢;omega
 have hb:Go.Proofs.YtgkljcmjnphpeaaGreatDoor.nth data (data.length-(b::t).length)=b:=by
  rw[Nat.add_zero]at h0;rw[←h0];rfl
 obtain⟨bd,o,e1,e2,e3⟩:=h.dat _ hlt
 refine⟨hlt,hb,by rw[←hb];exact h.byt _ hlt,bd,o,e1,e2,by rw[e3,hb]⟩
theorem slo(h:Sc B bs ao cap data x2 x3 x4 w r) :
  Calls Tryz.prog 190 #[.pointer (some ⟨bs,0,none⟩)] w fun e w'=>e=.returned (.int .i64 (r.length:Nat))∧∃ m,w'=w.drewN m:=by
 have c0:=h.c0
 have c1:=h.c1
 have hl:=h.le
 have hn:=h.len
 have e1:((data.length:Int)-((data.length-r.length:Nat):Int))=((r.length:Nat):Int):=by omega
 generalize data.length-r.length=p at *
 go_enter Tryz.func190,Tryz.ntmps190
 go_wp2_with fail
 go_quiet (fail)
 go_wp2
 go_ret
 exact⟨rfl,nq,rfl⟩
theorem strEq(a b:ByteArray):(a.toList==b.toList)=decide (a=b):=by
 rw[Bool.eq_iff_iff,beq_iff_eq,decide_eq_true_iff,ByteArray.toList_eq,ByteArray.toList_eq]
 exact⟨fun h=>ByteArray.ext (Array.toList_inj.1 h),fun h=>by rw[h]⟩
theorem pi(s r:List Nat):s.isPrefixOf r=decide (s.length≤r.length∧r.take s.length=s):=by
 rw[Bool.eq_iff_iff,List.isPrefixOf_iff_prefix,decide_eq_true_iff]
 constructor
 ·intro h
  exact⟨h.length_le,(List.prefix_iff_eq_take.1 h).symm⟩
 ·rintro⟨_,h⟩
  exact List.prefix_iff_eq_take.2 h.symm
theorem sNi{a b:List Nat}(ha:∀ x∈a,x<256)(hb:∀ x∈b,x<256)(h:strN a=strN b):a=b:=by
 have h1:(a.map UInt8.ofNat)=(b.map UInt8.ofNat):=by
  unfold strN at h
  simpa using h
 have e:∀ l:List Nat,(∀ x∈l,x<256)→(l.map UInt8.ofNat).map UInt8.toNat=l:=fun l hl=>by
  rw[List.map_map]
  have:l.map (UInt8.toNat ∘ UInt8.ofNat)=l.map id:=List.map_congr_left (fun x hx=>by simp[Nat.mod_eq_of_lt (hl x hx)])
  simpa using this
 rw[←e a ha,←e b hb,h1]
theorem Sc.bytes(h:Sc B bs ao cap data x2 x3 x4 w r):∀ x∈r,x<256:=by
 intro x hx
 rw[←h.suf]at hx
 have hx':=List.mem_of_mem_drop hx
 obtain⟨i,hi,rfl⟩:=List.getElem_of_mem hx'
 have:=h.byt i hi
 simpa[Go.Proofs.YtgkljcmjnphpeaaGreatDoor.nth,hi]using this
theorem blb(s:ByteArray):∀ x∈bl s,x<256:=by
 intro x hx
 obtain⟨i,hi,rfl⟩:=List.getElem_of_mem hx
 have:=bl_lt s i (by rw[←bll];exact hi)
 simpa[nth,hi]using this
theorem Sc.str(h:Sc B bs ao cap data x2 x3 x4 w r)(n c:Nat)(h0:0<n)(hn:n≤r.length){bd o:Nat}(ha:ao=some ⟨bd,o,none⟩)(m:Nat) :
  (convert 23 9 (.slice (some ⟨bd,o+(data.length-r.length),none⟩) n c)).run Tryz.prog (w.drewN m)=.ok (.string (strN (r.take n))) (w.drewN m):=by
 have hl:(r.take n).length=n:=by rw[List.length_take];omega
 have:=stc (w:=w.drewN m) ⟨bd,o+(data.length-r.length),none⟩ c (r.take n) (fun j hj=>by
  rw[hl]at hj
  obtain⟨b',o',e1,e2,e3⟩:=h.dat (data.length-r.length+j) (by have:=h.le;omega)
  rw[ha]at e1
  cases e1
  have e4:Go.Proofs.YtgkljcmjnphpeaaGreatDoor.nth (r.take n) j=Go.Proofs.YtgkljcmjnphpeaaGreatDoor.nth data (data.length-r.length+j):=by
   rw[←h.nthOf j (by omega)]
   unfold Go.Proofs.YtgkljcmjnphpeaaGreatDoor.nth
   rw[List.getD_eq_getElem?_getD,List.getD_eq_getElem?_getD,List.getElem?_take_of_lt hj]
  rw[e4,ap,Nat.add_assoc]
  exact e3)
 rw[hl]at this
 exact this
theorem so0(h:Sc B bs ao cap data x2 x3 x4 w r)(s:ByteArray)(h0:0<s.size)(hs:s.size≤1000000) :
  Calls Tryz.prog 138 #[.pointer (some ⟨bs,0,none⟩),.string s] w fun e w'=>e=.returned (.bool ((bl s).isPrefixOf r))∧∃ m,w'=w.drewN m:=by
 have H:=hide h
 have c0:=h.c0
 have c1:=h.c1
 have hl:=h.le
 have hn:=h.len
 obtain⟨hlc,hcm⟩:=h.lc
 clear h
 by_cases hle:s.size≤r.length
 ·have t1:decide ((s.size:Int)≤(r.length:Int))=true:=by simp;omega
  obtain⟨bd,o,rfl,_⟩:∃ bd o,ao=some ⟨bd,o,none⟩∧bd<B:=by
   obtain⟨b,o,e1,e2,_⟩:=H.o.dat 0 (by omega)
   exact⟨b,o,e1,e2⟩
  have hcv:=fun m=>H.o.str s.size (cap-(data.length-r.length)) h0 hle rfl m
  have HE:Hid (decide (strN (r.take s.size)=s)=(bl s).isPrefixOf r):=by
   unfold Hid
   rw[pi,decide_eq_decide,bll]
   constructor
   ·intro e
    exact⟨hle,sNi (fun x hx=>H.o.bytes x (List.mem_of_mem_take hx)) (blb s) (e.trans (sNb s).symm)⟩
   ·rintro⟨_,e⟩
    rw[e,sNb]
  generalize hT:strN (r.take s.size)=T at *
  clear hT
  have hpn:(data.length-r.length)+s.size≤data.length:=by omega
  have hpl:data.length-r.length≤data.length:=by omega
  generalize data.length-r.length=p at *
  have hw:IntKind.i64.wrap ((p:Int)+(s.size:Int))=((p+s.size:Nat):Int):=by rw[IntKind.wrap_i64];omega
  have hA:(0:Int)≤(p:Int)+(s.size:Int):=by omega
  have hA2:(p:Int)+(s.size:Int)≤(cap:Int):=by omega
  have hA3:((p:Int)+(s.size:Int)).toNat=p+s.size:=by omega
  have hA4:¬ cap=p:=by omega
  go_enter Tryz.func138,Tryz.ntmps138
  go_wp2_with fail
  go_quiet ((go_at_call 190;exact Calls.quiet_of (slo (H.o.drewN _))))
  go_wp2
  go_ret
  exact⟨by rw[←HE.o,←strEq];rfl,nq,rfl⟩
 ·have t1:decide ((s.size:Int)≤(r.length:Int))=false:=by simp;omega
  have hp:(bl s).isPrefixOf r=false:=by
   rw[pi,decide_eq_false_iff_not,bll]
   exact fun x=>hle x.1
  rw[hp]
  generalize data.length-r.length=p at *
  go_enter Tryz.func138,Tryz.ntmps138
  go_wp2_with fail
  go_quiet ((go_at_call 190;exact Calls.quiet_of (slo (H.o.drewN _))))
  go_wp2
  go_ret
  exact⟨rfl,nq,rfl⟩
theorem Fo.takes_none{s r:List Nat}(h:s.isPrefixOf r=false):Fo.takes s r=none:=by unfold Fo.takes;rw[h];rfl
theorem Fo.takes_some{s r:List Nat}(h:s.isPrefixOf r=true):Fo.takes s r=some (r.drop s.length):=by unfold Fo.takes;rw[h];rfl
def TaT(B bs:Nat)(ao:Option Addr)(cap:Nat)(data:List Nat)(x2 x3 x4:Value)(w:World)(r:List Nat)(o:Option (List Nat))(e:Ending)(w':World):Prop:=
 e=.returned (.bool o.isSome)∧Sc B bs ao cap data x2 x3 x4 w' (o.getD r)∧Only bs w w'
theorem sto(h:Sc B bs ao cap data x2 x3 x4 w r)(s:ByteArray)(h0:0<s.size)(hs:s.size≤1000000) :
  Calls Tryz.prog 136 #[.pointer (some ⟨bs,0,none⟩),.string s] w (TaT B bs ao cap data x2 x3 x4 w r (Fo.takes (bl s) r)):=by
 have H:=hide h
 have hl:=h.le
 have hn:=h.len
 have HA:=hide (so0 h s h0 hs)
 clear h
 cases hp:(bl s).isPrefixOf r
 ·rw[hp]at HA
  rw[Fo.takes_none hp]
  go_enter Tryz.func136,Tryz.ntmps136
  go_wp2_with fail
  refine HA.o.mono ?_
  rintro e w1 ⟨rfl,m,rfl⟩
  go_wp2
  go_ret
  exact⟨rfl,H.o.drewN m,(Only.refl _ _).drewN m⟩
 ·rw[hp]at HA
  rw[Fo.takes_some hp]
  have hpl:=(List.isPrefixOf_iff_prefix.1 hp).length_le
  rw[bll]at hpl
  have HS:Hid (∀ m,Sc B bs ao cap data x2 x3 x4 ((w.drewN m).setCell ⟨bs,1,none⟩ (.int .i64 (data.length-r.length+s.size:Nat))) (r.drop (bl s).length)):=fun m =>
   (H.o.drewN m).set _ s.size (by rw[bll]) hpl _ rfl
  have c1:=H.o.c1
  have f1:=H.o.fz 1
  have hpn:(data.length-r.length)+s.size≤data.length:=by omega
  clear hp
  generalize data.length-r.length=p at *
  go_enter Tryz.func136,Tryz.ntmps136
  go_wp2_with fail
  refine HA.o.mono ?_
  rintro e w1 ⟨rfl,m,rfl⟩
  go_wp2
  go_ret
  exact⟨rfl,HS.o m,((Only.refl _ _).drewN m).setCell _ _⟩
theorem smy(w:World):Calls Tryz.prog 99 #[.bool true] w fun e w'=>e=.returned (.tuple #[])∧w'=w:=by
 go_enter Tryz.func99,Tryz.ntmps99
 go_wp2
 go_end0
 exact⟨rfl,rfl⟩
theorem sn(w:World):Calls Tryz.prog 99 #[.bool false] w fun e w'=>e=gU 4∧w'=w:=by
 unfold gU
 go_enter Tryz.func99,Tryz.ntmps99
 go_wp2
 exact⟨rfl,rfl,rfl⟩
end
section
variable{B cap:Nat}{ao:Option Addr}{d:List Nat}{w:World}{p:Nat}
theorem skc(hdat0:Dat w B ao d)(b1:d.length≤cap)(b2:cap≤9223372036854775807)(lp:p≤d.length) :
  Calls Tryz.prog 188 #[.slice ao d.length cap,.int .i64 p] w fun e w'=>e=.returned (.int .i64 (skipW d p:Nat))∧w'=w:=by
 have hdat:=hide hdat0
 clear hdat0
 go_enter Tryz.func188,Tryz.ntmps188
 go_wp2
 refine wp_scope_jumps 0 (fun a' w'=>w'=w∧∃(m:Nat) (y105 y106 y107 y108 y109 y110 y111 y112 y113 y114 y115 y116 y117 y118:Value),a'={ tmps:=#[.slice ao d.length cap,.int .i64 m,undef,undef,.int .i64 0,y105,y106,y107,y108,y109,y110,y111,y112,y113,y114,y115,y116,y117,y118],defers:=[] }∧m≤d.length∧Hid (skipW d m=skipW d p)) (fun a' _=>d.length-(intOf (a'.tmps.getD 1 undef)).toNat) rfl ?_ ?_
 ·by_cases c:p<d.length
  ·have c':(p:Int)<d.length:=by omega
   obtain⟨bd,off,rfl,_,hd⟩:=hdat.o p c
   cases hw:whB (nth d p)
   ·have hs:skipW d p=p:=sWs (fun h=>by rw[hw]at h;cases h.2)
    go_wp2
    go_step3
    go_wp2_with (go_at_call 250;refine(who _ _).mono ?_;rintro e w' ⟨rfl,rfl⟩;rw[hw])
    simp only[Exit.jump]
    go_ret
    exact⟨by rw[hs];rfl,rfl⟩
   ·have hs:=skWs c hw
    go_wp2
    go_step3
    go_wp2_with (go_at_call 250;refine(who _ _).mono ?_;rintro e w' ⟨rfl,rfl⟩;rw[hw])
    go_step3
    refine⟨rfl,rfl,p+1,_,_,_,_,_,_,_,_,_,_,_,_,_,_,rfl,by omega,hs.symm⟩
  ·have c':¬ (p:Int)<d.length:=by omega
   have hs:skipW d p=p:=sWs (fun h=>c h.1)
   go_wp2
   go_step3
   go_wp2
   simp only[Exit.jump]
   go_ret
   exact⟨by rw[hs];rfl,rfl⟩
 ·rintro a' w' ⟨rfl,m,y105,y106,y107,y108,y109,y110,y111,y112,y113,y114,y115,y116,y117,y118,rfl,hm,HS⟩
  by_cases c:m<d.length
  ·have c':(m:Int)<d.length:=by omega
   obtain⟨bd,off,rfl,_,hd⟩:=hdat.o m c
   cases hw:whB (nth d m)
   ·have hs:skipW d m=m:=sWs (fun h=>by rw[hw]at h;cases h.2)
    go_wp2_with (go_at_call 250;refine(who _ _).mono ?_;rintro e w' ⟨rfl,rfl⟩;rw[hw])
    simp only[Exit.jump]
    go_ret
    exact⟨by rw[←HS.o,hs];rfl,rfl⟩
   ·have hs:=skWs c hw
    go_wp2_with (go_at_call 250;refine(who _ _).mono ?_;rintro e w' ⟨rfl,rfl⟩;rw[hw])
    go_step3
    refine⟨rfl,⟨rfl,m+1,_,_,_,_,_,_,_,_,_,_,_,_,_,_,rfl,by omega,hs.symm.trans HS.o⟩,?_⟩
    simp[intOf];omega
  ·have c':¬ (m:Int)<d.length:=by omega
   have hs:skipW d m=m:=sWs (fun h=>c h.1)
   go_wp2
   simp only[Exit.jump]
   go_ret
   exact⟨by rw[←HS.o,hs];rfl,rfl⟩
theorem drc{d:List Nat}{p:Nat}(h:p<d.length):d.drop p=nth d p::d.drop (p+1):=by
 rw[List.drop_eq_getElem_cons h]
 simp[nth,h]
theorem dsW(d:List Nat):∀(k p:Nat),d.length-p=k→d.drop (skipW d p)=(d.drop p).dropWhile whB
 |0,p,h=>by
  rw[sWs (fun c=>by omega),List.drop_of_length_le (by omega)];rfl
 |k+1,p,h=>by
  have hp:p<d.length:=by omega
  rw[drc hp,List.dropWhile_cons]
  cases hw:whB (nth d p)
  ·rw[sWs (fun c=>by rw[hw]at c;cases c.2),drc hp];rfl
  ·rw[skWs hp hw,dsW d k (p+1) (by omega)];rfl
def lA(d:List Nat)(p:Nat):Nat:=d.length-(Fo.skipLine (d.drop p)).length
theorem sud{a d:List Nat}(h:a <:+ d):d.drop (d.length-a.length)=a:=by
 obtain⟨t,rfl⟩:=h
 rw[List.length_append,Nat.add_sub_cancel,List.drop_left]
theorem sLs:∀ r:List Nat,Fo.skipLine r <:+ r
 | []=>List.suffix_refl _
 |b::r=>by
  simp only[Fo.skipLine]
  split
  ·exact List.suffix_refl _
  ·exact(sLs r).trans (List.suffix_cons b r)
theorem lAh{d:List Nat}{p:Nat}(hp:p<d.length)(h:nth d p=10∨nth d p=13):lA d p=p:=by
 unfold lA
 rw[drc hp,Fo.skipLine,if_pos h,←drc hp,List.length_drop];omega
theorem lAe{d:List Nat}{p:Nat}(hp:¬ p<d.length)(hl:p≤d.length):lA d p=p:=by
 unfold lA
 rw[List.drop_of_length_le (by omega)]
 simp[Fo.skipLine];omega
theorem lAo{d:List Nat}{p:Nat}(hp:p<d.length)(h:¬ (nth d p=10∨nth d p=13)):lA d (p+1)=lA d p:=by
 unfold lA
 rw[drc hp,Fo.skipLine,if_neg h]
theorem lic(hdat0:Dat w B ao d)(b1:d.length≤cap)(b2:cap≤9223372036854775807)(lp:p≤d.length) :
  Calls Tryz.prog 189 #[.slice ao d.length cap,.int .i64 p] w fun e w'=>e=.returned (.int .i64 (lA d p:Nat))∧w'=w:=by
 have hdat:=hide hdat0
 clear hdat0
 generalize hL:lA d p=L at *
 have HL:=hide hL
 clear hL
 go_enter Tryz.func189,Tryz.ntmps189
 go_wp2
 go_loopw [1] (fun i wr=>∃ k:Nat,k≤d.length∧i=.int .i64 k∧Hid (lA d k=L)∧wr=w) (fun i _=>d.length-(intOf i).toNat)
 case atStart=>exact⟨p,lp,rfl,HL,rfl⟩
 clear HL
 case round =>
  obtain⟨k,hk,rfl,HK,rfl⟩:=hrel
  by_cases c:k<d.length
  ·have c':(k:Int)<d.length:=by omega
   obtain⟨bd,off,rfl,_,hd⟩:=hdat.o k c
   by_cases h1:nth d k=10
   ·have hs:=lAh c (Or.inl h1)
    have HX:=hide (hs.symm.trans HK.o)
    rw[h1]at hd
    clear h1 hs HK
    go_wp2
    go_ret
    exact⟨by rw[←HX.o];rfl,rfl⟩
   ·by_cases h2:nth d k=13
    ·have hs:=lAh c (Or.inr h2)
     have HX:=hide (hs.symm.trans HK.o)
     rw[h2]at hd
     clear h1 h2 hs HK
     go_wp2
     go_ret
     exact⟨by rw[←HX.o];rfl,rfl⟩
    ·have HX:=hide ((lAo c (fun x=>x.elim h1 h2)).trans HK.o)
     have h1':((nth d k:Int) != 10)=true:=by simp;omega
     have h2':((nth d k:Int) != 13)=true:=by simp;omega
     generalize nth d k=z at *
     clear h1 h2 HK
     go_wp2
     go_roundw
     case rel=>exact⟨k+1,by omega,by go_num,HX,trivial⟩
     case measure=>simp[intOf];omega
  ·have c':¬ (k:Int)<d.length:=by omega
   have HX:=hide ((lAe c hk).symm.trans HK.o)
   clear HK
   go_wp2
   go_ret
   exact⟨by rw[←HX.o];rfl,rfl⟩
end
end Go.Proofs.YtgkljcmjnphpeaaGreatDoor
