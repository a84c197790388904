import Derived.WalkLawsBesides
import Derived.BigQuiet
import Derived.Deep.Light
import Derived.Deep.RegionHeld
import Derived.Deep.AppendSrc
import Derived.StillTailTactics
import Derived.Test.YtgkljcmjnphpeaaGreatDoorKSh
set_option linter.unusedVariables false
set_option linter.unusedSimpArgs false
set_option maxHeartbeats 2000000
set_option maxRecDepth 100000
set_option linter.defProp false
def Eq.t:=@Eq.trans
def Eq.s:=@Eq.symm
def Ne.s:=@Ne.symm
def Iff.t:=@Iff.trans
def Iff.s:=@Iff.symm
def Go.Calls.m:=@Go.Calls.mono
def Go.RowKit.Below.t:=@Go.RowKit.Below.trans
def Go.RowKit.Below.m:=@Go.RowKit.Below.mono
def List.IsSuffix.t:=@List.IsSuffix.trans
def Go.CallsD.m:=@Go.CallsD.mono
open List renaming length->G
open Go.Value renaming pointer->A3,tuple->BG,agg->Bc,bool->Bs,int->I,slice->Z,string->y7
open Go.Obj renaming cells->BV
open Go.Ending renaming returned->BX
open Or renaming inl->C1,inr->C2
open Bool renaming true->CD,false->CS
open Go.Proofs.Tryz renaming prog->DG
open List renaming replicate->DJ
open Option renaming none->N,some->O
open Go.IntKind renaming i64->U
open Go renaming World->vz,Addr->wT,Value->wg,Calls->wh,Act->xq
open Go.RowKit renaming Below->wm,Hid->wt
open Go.Proofs.Tryz
namespace Go
def Y{p:Prop}(h:p:=by omega):p:=h
def aG{p:Prop}(h:p:=by kernel_rfl):p:=h
def bF{p:Prop}(h:p:=by decide):p:=h
def cO{p:Prop}(h:p:=by simp):p:=h
def eS{p:Prop}(h:p:=by simp;omega):p:=h
def eT{p:Prop}(h:p:=by simp[intOf];omega):p:=h
def lB{p:Prop}(h:p:=by unfold maxLen;omega):p:=h
def lT{p:Prop}(h:p:=by simpa using h):p:=h
def mG{p:Prop}(h:p:=by simp[Value.oneCell']):p:=h
def mH{p:Prop}(h:p:=by rw[ax];omega):p:=h
def mO{p:Prop}(h:p:=by rw[aU];omega):p:=h
def mT{p:Prop}(h:p:=by simp[ij]):p:=h
def nF{p:Prop}(h:p:=by first|decide|omega):p:=h
def ob{p:Prop}(h:p:=by rw[sq];omega):p:=h
def oi{p:Prop}(h:p:=by rw[gM]):p:=h
def oj{p:Prop}(h:p:=by simp only[ij];omega):p:=h
def oz{p:Prop}(h:p:=by simpa using m):p:=h
def oC{p:Prop}(h:p:=by simp[results,fp,go_sem]):p:=h
def oT{p:Prop}(h:p:=by show b<_;omega):p:=h
def o0{p:Prop}(h:p:=by rw[B.o];exact ag _):p:=h
def pd{p:Prop}(h:p:=by simpa using g):p:=h
def pf{p:Prop}(h:p:=by show(0:Nat)<=_;omega):p:=h
def pg{p:Prop}(h:p:=by rw[gW];omega):p:=h
def pn{p:Prop}(h:p:=by simpa using n):p:=h
def pr{p:Prop}(h:p:=by rw[a4];omega):p:=h
def pI{p:Prop}(h:p:=by simp only[ab,gM];omega):p:=h
def pL{p:Prop}(h:p:=by simp[results,results76,go_sem]):p:=h
def p7{p:Prop}(h:p:=by simp;have:=a.o.lt;omega):p:=h
def qq{p:Prop}(h:p:=by have:=h.pos;omega):p:=h
def qw{p:Prop}(h:p:=by simp[results,results75,go_sem]):p:=h
def rO{p:Prop}(h:p:=by simp[kY,mC];omega):p:=h
def sg{p:Prop}(h:p:=by rw[g.o];exact s):p:=h
def sk{p:Prop}(h:p:=by rw[y.o];exact F):p:=h
def sp{p:Prop}(h:p:=by show ¬(w.heap.size+5<=w.heap.size+3);omega):p:=h
def sw{p:Prop}(h:p:=by show w.heap.size<_;omega):p:=h
def tc{p:Prop}(h:p:=by simp[Value.ownBlock];omega):p:=h
def ty{p:Prop}(h:p:=by simp[results,results74,go_sem]):p:=h
def tW{p:Prop}(h:p:=by simp[results,results209,go_sem]):p:=h
def u0{p:Prop}(h:p:=by simp only[ab,bj,aB];omega):p:=h
def vf{p:Prop}(h:p:=by first|rfl|(have ac:=ao.o;rw[ac];rfl)):p:=h
def vj{p:Prop}(h:p:=by simp;have:=e.o.lt;omega):p:=h
def vq{p:Prop}(h:p:=by simp;have:=s.o.lt;omega):p:=h
def vr{p:Prop}(h:p:=by have:=h.below.size;omega):p:=h
def vu{p:Prop}(h:p:=by simp only[ai]at e;omega):p:=h
def vx{p:Prop}(h:p:=by rw[Nat.div_lt_iff_lt_mul (by decide)];rw[c_]at h;exact h):p:=h
def vy{p:Prop}(h:p:=by simp only[ByteArray.size_append',ByteArray.size_mk'];simp;omega):p:=h
end Go
namespace Go
def ab:=@List.length_append
def af:=@List.getElem?_eq_getElem
def ag:=@Nat.le_refl
def ai:=@List.length_cons
def aj:=@if_neg
def ak:=@if_pos
def ap:=@Go.lt_of_block
def aq:=@List.length_map
def ar:=@Go.RowKit.Below.refl
def au:=@List.append_assoc
def av:=@decide_eq_false
def aw:=@Nat.zero_le
def ax:=@List.length_take
def ay:=@List.getElem?_eq_some_iff
def az:=@Go.Proofs.Tryz.underlying23
def aA:=@Go.World.block_lt_of_cell?
def aB:=@List.length_nil
def aC:=@Nat.eq_or_lt_of_le
def aE:=@List.getElem?_map
def aF:=@Nat.lt_of_lt_of_le
def aH:=@decide_eq_true
def aI:=@List.map_append
def aJ:=@Nat.le_trans
def aK:=@Go.bodyPost_ret
def aL:=@List.getD_eq_getElem?_getD
def aP:=@List.take_of_length_le
def aQ:=@List.mem_of_getElem?
def aR:=@List.getElem?_append_left
def aU:=@List.length_drop
def aV:=@Go.World.size_alloc
def aW:=@List.getElem?_append_right
def aX:=@Go.wpList_append_own
def aY:=@Nat.pow_le_pow_right
def aZ:=@List.mem_append
def a_:=@Bool.and_eq_true
def bj:=@List.length_replicate
def bk:=@Go.results_cell_row
def bq:=@Go.Proofs.Tryz.underlying67
def bu:=@Go.IntKind.wrap_i64
def bG:=@List.all_eq_true
def bH:=@List.cons_append
def bI:=@Go.World.ownsRow_nil
def bJ:=@Go.ownsRow_setCell_other
def bK:=@Option.map_some
def bM:=@List.map_cons
def bN:=@List.take_succ_eq_append_getElem
def bO:=@decide_eq_decide
def bP:=@List.append_nil
def bR:=@Go.info_parts
def bT:=@decide_eq_true_eq
def bU:=@List.mem_cons_self
def bX:=@Array.getElem?_eq_getElem
def bZ:=@Nat.zero_add
def b_:=@List.drop_eq_getElem_cons
def ch:=@List.getElem?_toArray
def cu:=@List.mem_cons_of_mem
def cA:=@Go.IntKind.wrap_u8
def cC:=@Bool.true_and
def cD:=@List.length_eq_zero_iff
def cE:=@List.mem_map
def cF:=@List.getElem_of_mem
def cG:=@List.flatMap_cons
def cH:=@Bool.eq_iff_iff
def cI:=@List.getElem_mem
def cJ:=@List.mem_cons
def cK:=@List.flatMap_append
def cL:=@decide_eq_true_iff
def cM:=@Int.tmod_eq_emod_of_nonneg
def cN:=@List.mem_of_mem_take
def cP:=@List.take_add_one
def cQ:=@List.take_append_drop
def cR:=@Nat.div_div_eq_div_mul
def cT:=@List.sum_cons
def cU:=@List.nil_append
def cW:=@Nat.lt_or_ge
def cX:=@congrArg
def cY:=@List.drop_of_length_le
def cZ:=@List.mem_singleton
def c_:=@Nat.pow_succ
def dh:=@List.eq_nil_of_length_eq_zero
def dq:=@List.getElem?_take_of_lt
def dt:=@Go.wpList_store_mid
def du:=@decide_eq_false_iff_not
def dw:=@Go.Proofs.Tryz.underlying29
def dx:=@Nat.mul_le_mul_right
def dy:=@List.map_map
def dz:=@Go.Proofs.Tryz.underlying38
def dA:=@Go.Calls.quiet_of_same
def dB:=@Array.getElem?_setIfInBounds_ne
def dC:=@Go.Proofs.Tryz.underlying9
def dD:=@List.all_cons
def dE:=@List.take_length
def dF:=@Go.Proofs.Tryz.underlying52
def dG:=@Array.getElem?_toList
def dH:=@Array.length_toList
def dI:=@Go.ByteArray.toList_eq
def dJ:=@List.takeWhile_cons
def dK:=@Nat.mul_comm
def dM:=@List.exists_cons_of_ne_nil
def dN:=@List.size_toArray
def dP:=@List.getElem?_zip_eq_some
def dQ:=@Nat.min_eq_left
def dR:=@Nat.mod_eq_of_lt
def dS:=@Nat.mul_assoc
def dT:=@List.dropWhile_cons
def dU:=@List.length_singleton
def dV:=@Array.getElem?_setIfInBounds_self_of_lt
def dW:=@List.mem_of_mem_drop
def dY:=@Nat.mod_two_eq_zero_or_one
def dZ:=@List.length_set
def d8:=@List.drop_left'
def d9:=@Option.some.inj
def d_:=@Nat.eq_zero_or_pos
def ed:=@Go.World.ownsRow.drew
def ee:=@Array.mem_toList_iff
def eh:=@Go.Proofs.Tryz.ntmps177
def ep:=@Array.mem_iff_getElem?
def eq:=@List.drop_drop
def ew:=@List.map_nil
def eA:=@List.of_mem_zip
def eB:=@Go.RowKit.Below.heap_setCell
def eC:=@ByteArray.ext
def eD:=@Nat.add_zero
def eE:=@Go.Proofs.Tryz.func177
def eF:=@Go.Proofs.Tryz.ntmps132
def eG:=@List.count_append
def eH:=@List.length_zip
def eI:=@List.replicate_succ
def eJ:=@Nat.sub_self
def eL:=@Go.Proofs.Tryz.func132
def eO:=@Nat.add_assoc
def eR:=@Go.Proofs.Tryz.underlying3
def eU:=@Go.Proofs.Tryz.underlying5
def eV:=@Nat.lt_of_le_of_lt
def eW:=@Array.getElem?_modify
def eX:=@Nat.le_of_lt
def eY:=@List.getElem?_cons_succ
def eZ:=@List.not_mem_nil
def e_:=@Nat.le_succ
def fg:=@List.getElem?_take
def fh:=@Go.MapKept.run_getObj_map
def fj:=@List.foldl_cons
def fp:=@Go.Proofs.Tryz.results263
def fr:=@Nat.le_succ_of_le
def ft:=@Go.Proofs.Tryz.underlying31
def fy:=@Array.replicate_succ
def fA:=@Array.replicate_zero
def fD:=@Go.growslice_fits
def fE:=@Go.RowKit.Below.heap_alloc
def fF:=@List.drop_length
def fG:=@Go.wpList_plain
def fH:=@List.append_toArray
def fI:=@List.length_pos_iff
def fJ:=@Go.run_convert_bytes_string
def fK:=@List.getElem?_drop
def fL:=@Go.grownCap_le_maxLen
def fM:=@Go.Result.andThen_ok
def fO:=@List.set_append_right
def fP:=@List.takeWhile_prefix
def fQ:=@List.map_toArray
def fR:=@List.suffix_cons
def fS:=@List.suffix_refl
def fU:=@Go.Proofs.Tryz.ntmps230
def fV:=@Go.Proofs.Tryz.func230
def fW:=@Go.Proofs.Tryz.func290
def fX:=@List.drop_zero
def fY:=@List.isPrefixOf_iff_prefix
def fZ:=@Array.size_setIfInBounds
def f7:=@Go.Proofs.Tryz.ntmps290
end Go
namespace Go.Proofs.YtgkljcmjnphpeaaGreatDoor
open Go.RowKit
def wi(a c b:Int)(d:vz):wh DG 63 #[I U a,I U c,I U b] d λe f=>e=BX (Bs (decide (c<=a)&&decide (a<=b)))/\f=d:=by
 go_in
 go_wp2;all_goals (go_ret;refine⟨?_,rfl⟩)
 ·rename_i h;simp[h]
 ·rename_i h;simp;omega
def BZ(a c b:Int)(d:vz)(f:c<=a)(g:a<=b):wh DG 63 #[I U a,I U c,I U b] d λe h=>e=BX (Bs CD)/\h=d:=by have:=wi a c b d;simpa[f,g]using this
def BU(a c b:Int)(e:vz)(h:a<c\/b<a):wh DG 63 #[I U a,I U c,I U b] e λd f=>d=BX (Bs CS)/\f=e:=by have d:(decide (c<=a)&&decide (a<=b))=CS:=eS;have:=wi a c b e;rw[d]at this;exact this
def Kt(a c b:Int)(d:vz):wh DG 216 #[I .u8 a,I .u8 c,I .u8 b] d λe f=>e=BX (Bs (decide (c<=a)&&decide (a<=b)))/\f=d:=by
 go_in
 go_wp2;all_goals (go_ret;refine⟨?_,rfl⟩)
 ·rename_i h;simp[h]
 ·rename_i h;simp;omega
def T7(a c b:Int)(d:vz)(f:c<=a)(g:a<=b):wh DG 216 #[I .u8 a,I .u8 c,I .u8 b] d λe h=>e=BX (Bs CD)/\h=d:=by have:=Kt a c b d;simpa[f,g]using this
def T6(a c b:Int)(e:vz)(h:a<c\/b<a):wh DG 216 #[I .u8 a,I .u8 c,I .u8 b] e λd f=>d=BX (Bs CS)/\f=e:=by have d:(decide (c<=a)&&decide (a<=b))=CS:=eS;have:=Kt a c b e;rw[d]at this;exact this
def iw(a:Int)(b:vz):wh DG 250 #[I .u8 a] b λc d=>c=BX (Bs (a==0||a==9||a==10||a==12||a==13||a==32))/\d=b:=by
 go_in
 go_wp2;all_goals (go_ret;exact⟨by simp[*],rfl⟩)
end Go.Proofs.YtgkljcmjnphpeaaGreatDoor
namespace Go
section
open Go.RowKit
def nu{a:vz}{b g:Nat}{c:Array wg}{e:TypeId}{d:Nat×Nat}(v:wg)(h:a.heap[b]?=O (BV c e d)):(a.setCell ⟨b,g,N⟩ v).heap[b]?=O (BV (c.setIfInBounds g v) e d):=by
 have f:=ap h;have i:a.heap[b]=BV c e d:=by simpa[bX f]using h
 show(a.heap.modify b _)[b]?=_;rw[bX (by simpa using f),Array.getElem_modify_self,i];rfl
def lK{w:vz}{b a d:Nat}(e:wg)(c:a≠b):(w.setCell ⟨b,d,N⟩ e).heap[a]?=w.heap[a]? :=
 eB _ _ _ _ c
def nt{w:vz}{b:Nat}{a:Obj}(c:Obj)(h:w.heap[b]?=O a):(w.alloc c).heap[b]?=O a:=by rw[fE _ _ _ (ap h)];exact h
def bn(w:vz)(a:Obj):(w.alloc a).heap[w.heap.size]?=O a:=by show(w.heap.push a)[w.heap.size]?=_;simp
def cb{w:vz}{b i:Nat}{a:Array wg}{d:TypeId}{c:Nat×Nat}(h:w.heap[b]?=O (BV a d c)):w.cell? ⟨b,i,N⟩=a[i]?:=by simp[World.cell?,h]
def pA{w:vz}{b c:Nat}{a:Array wg}{d:TypeId}(h:w.heap[b]?=O (BV a d (0,0))):w.frozen? ⟨b,c,N⟩=CS:=by simp[World.frozen?,h]
def xM{f:vz}{g b:Nat}{c d:TypeId}{p o:Nat}{e:wg}{q:List wg}{i:Array wg}{j:Nat×Nat}(h:f.ownsRow g c p e o q)(a:f.heap[b]?=O (BV i d j))(n:d≠c):e.ownBlock≠O b:=by
 rcases h.2 with⟨rfl,_⟩|⟨k,r,s,rfl,_,m,_⟩;·simp[Value.ownBlock]
 ·intro l;have:k=b:=by simpa[Value.ownBlock]using l
  subst this;rw[m]at a;simp at a;exact n a.2.1.s
structure Kept(e:TypeId)(B:Nat)(S:List Nat)(w w':vz):Prop where
 os:w'.os=w.os
 tape:w'.tape=w.tape
 output:w'.output=w.output
 size:w.heap.size<=w'.heap.size
 block:∀k o,k∉S->w.heap[k]?=O o->(k<B\/∀c fz,o≠BV c e fz)->w'.heap[k]?=O o
variable{e:TypeId}{B:Nat}{S:List Nat}
def Kept.refl(e:TypeId)(B:Nat)(S:List Nat)(w:vz):Kept e B S w w:=⟨rfl,rfl,rfl,ag _,λ_ _ _ h _=>h⟩
def Kept.t{a b c:vz}(h:Kept e B S a b)(k:Kept e B S b c):Kept e B S a c:=
 ⟨k.os.t h.os,k.tape.t h.tape,k.output.t h.output,aJ h.size k.size,λf g hi i d=>k.block f g hi (h.block f g hi i d) d⟩
def Kept.m{c:List Nat}{a b:vz}(h:Kept e B S a b)(i:∀k,k∈S->k∈c):Kept e B c a b:=
 ⟨h.os,h.tape,h.output,h.size,λd j hi g f=>h.block d j (λm=>hi (i d m)) g f⟩
def Kept.drewN{a b:vz}(h:Kept e B S a b)(c:Nat):Kept e B S a (b.drewN c):=⟨h.os,h.tape,h.output,h.size,h.block⟩
def Kept.drew{a w:vz}(h:Kept e B S a w):Kept e B S a w.drew:=⟨h.os,h.tape,h.output,h.size,h.block⟩
def Kept.alloc{a w:vz}(h:Kept e B S a w)(c:Obj):Kept e B S a (w.alloc c):=
 h.t ⟨rfl,rfl,rfl,cO,λ_ _ _ b _=>nt _ b⟩
def Kept.setCell{a w:vz}(h:Kept e B S a w){p:wT}(f:p.block∈S)(g:wg):Kept e B S a (w.setCell p g):=
 h.t ⟨rfl,rfl,rfl,by simp[World.setCell],λk _ (c:k∉S) d _=>by rw[eB _ _ _ _ (λb=>c (by rw[b];exact f))];exact d⟩
def Kept.grown{i w l:vz}{j:Option Nat}(h:Kept e B S i w)(a:w.grownBy l j)(o:∀g,j=O g->B<=g/\∃d f,w.heap[g]?=O (BV d e f)):Kept e B S i l :=
 h.t ⟨a.os,a.tape,a.output,a.size,λk q _ c b=>by
  rw[a.block k (ap c) (λm=>by
   obtain⟨p,d,f,n⟩:=o k m.s;rw[n]at c;rcases b with b|b;·omega
   ·exact b d f (d9 c).s)]
  exact c⟩
def Kept.below{a b:vz}(h:Kept e B S a b)(j:B<=a.heap.size)(g:∀k,k∈S->B<=k):wm B a b:=
 ⟨h.os,h.tape,h.output,h.size,λk f=>by obtain⟨c,d⟩:∃c,a.heap[k]?=O c:=⟨a.heap[k]'Y,bX _⟩;rw[d];exact h.block k c (λi=>by have:=g k i;omega) d (C1 f)⟩
def Kept.cell{a b:vz}(h:Kept e B S a b)(j:∀k,k∈S->B<=k){p:wT}{v:wg}(i:p.block<B)(f:a.cell? p=O v):b.cell? p=O v:=by have g:=aA a p f;obtain⟨c,d⟩:∃c,a.heap[p.block]?=O c:=⟨a.heap[p.block]'g,bX _⟩;have:=h.block p.block c (λl=>by have:=j _ l;omega) d (C1 i);rw[World.cell?_of_block (w:=a) (this.t d.s)];exact f
def oQ{w:vz}{B:Nat}{e:TypeId}{k j:Nat}{d:wg}{l:List wg}(h:w.ownsRow B e k d j l):∀a,d.ownBlock=O a->B<=a/\∃b f,w.heap[a]?=O (BV b e f):=by
 intro a c;rcases h.2 with⟨rfl,_⟩|⟨n,m,b,rfl,g,i,_⟩;·simp[Value.ownBlock]at c
 ·simp[Value.ownBlock]at c;subst c;exact⟨g,b,_,i⟩
def ke{w:vz}{B e n:Nat}{v:wg}{xs:List wg}{c:Nat}(h:w.ownsRow B e c v n xs):∃a b,v=Z a n b:=by
 rcases h.2 with⟨e1,e2⟩|⟨f,cap,d,e1,_⟩;·exact⟨N,0,by rw[e1,e2]⟩
 ·exact⟨_,_,e1⟩
def nw{a:vz}{b:Nat}{c:wg}{f:List wg}{g:TypeId}{d:Nat×Nat}(h:a.heap[b]?=O (BV (c::f).toArray g d)):a.cell? ⟨b,0,N⟩=O c:=cb h
def rU{w:vz}{b:Nat}{g a:wg}{d:List wg}{f:TypeId}{c:Nat×Nat}(h:w.heap[b]?=O (BV (g::a::d).toArray f c)):w.cell? ⟨b,1,N⟩=O a:=cb h
def yB{a:vz}{b:Nat}{i j c:wg}{f:List wg}{g:TypeId}{d:Nat×Nat}(h:a.heap[b]?=O (BV (i::j::c::f).toArray g d)):a.cell? ⟨b,2,N⟩=O c:=cb h
def yg{a:vz}{b:Nat}{i j k c:wg}{f:List wg}{g:TypeId}{d:Nat×Nat}(h:a.heap[b]?=O (BV (i::j::k::c::f).toArray g d)):a.cell? ⟨b,3,N⟩=O c:=cb h
def vK{a:vz}{b:Nat}{i j k l c:wg}{f:List wg}{g:TypeId}{d:Nat×Nat}(h:a.heap[b]?=O (BV (i::j::k::l::c::f).toArray g d)):a.cell? ⟨b,4,N⟩=O c:=cb h
def uO{a:vz}{b:Nat}{i j k l m c:wg}{f:List wg}{g:TypeId}{d:Nat×Nat}(h:a.heap[b]?=O (BV (i::j::k::l::m::c::f).toArray g d)):a.cell? ⟨b,5,N⟩=O c:=cb h
def vL{w:vz}{b:Nat}{g i j k l m a:wg}{d:List wg}{f:TypeId}{c:Nat×Nat}(h:w.heap[b]?=O (BV (g::i::j::k::l::m::a::d).toArray f c)):w.cell? ⟨b,6,N⟩=O a:=cb h
def Ph{a:vz}{b:Nat}{c d f:wg}{i:List wg}{j:TypeId}{g:Nat×Nat}(h:a.heap[b]?=O (BV (c::d::f::i).toArray j g)):a.cell? ⟨b,0,N⟩=O c/\a.cell? ⟨b,1,N⟩=O d/\a.cell? ⟨b,2,N⟩=O f:=⟨nw h,rU h,yB h⟩
def Lg{a:vz}{b:Nat}{c d f g:wg}{j:List wg}{k:TypeId}{i:Nat×Nat}(h:a.heap[b]?=O (BV (c::d::f::g::j).toArray k i)):a.cell? ⟨b,0,N⟩=O c/\a.cell? ⟨b,1,N⟩=O d/\a.cell? ⟨b,2,N⟩=O f/\a.cell? ⟨b,3,N⟩=O g:=⟨nw h,rU h,yB h,yg h⟩
def UH{a:vz}{b:Nat}{c d f g i:wg}{k:List wg}{l:TypeId}{j:Nat×Nat}(h:a.heap[b]?=O (BV (c::d::f::g::i::k).toArray l j)):a.cell? ⟨b,0,N⟩=O c/\a.cell? ⟨b,1,N⟩=O d/\a.cell? ⟨b,2,N⟩=O f/\a.cell? ⟨b,3,N⟩=O g/\a.cell? ⟨b,4,N⟩=O i:=⟨nw h,rU h,yB h,yg h,vK h⟩
def I9{a:vz}{b:Nat}{c d f g i j:wg}{l:List wg}{m:TypeId}{k:Nat×Nat}(h:a.heap[b]?=O (BV (c::d::f::g::i::j::l).toArray m k)):a.cell? ⟨b,0,N⟩=O c/\a.cell? ⟨b,1,N⟩=O d/\a.cell? ⟨b,2,N⟩=O f/\a.cell? ⟨b,3,N⟩=O g/\a.cell? ⟨b,4,N⟩=O i/\a.cell? ⟨b,5,N⟩=O j:=⟨nw h,rU h,yB h,yg h,vK h,uO h⟩
def A5{w:vz}{b:Nat}{a c d f g i j:wg}{l:List wg}{m:TypeId}{k:Nat×Nat}(h:w.heap[b]?=O (BV (a::c::d::f::g::i::j::l).toArray m k)):w.cell? ⟨b,0,N⟩=O a/\w.cell? ⟨b,1,N⟩=O c/\w.cell? ⟨b,2,N⟩=O d/\w.cell? ⟨b,3,N⟩=O f/\w.cell? ⟨b,4,N⟩=O g/\w.cell? ⟨b,5,N⟩=O i/\w.cell? ⟨b,6,N⟩=O j:=⟨nw h,rU h,yB h,yg h,vK h,uO h,vL h⟩
def lQ(c:Nat){w:vz}{b:Nat}{a:Array wg}{d:TypeId}(h:w.heap[b]?=O (BV a d (0,0))):w.frozen? ⟨b,c,N⟩=CS:=pA h
def Lv(c d f:Nat){a:vz}{b:Nat}{g:Array wg}{i:TypeId}(h:a.heap[b]?=O (BV g i (0,0))):a.frozen? ⟨b,c,N⟩=CS/\a.frozen? ⟨b,d,N⟩=CS/\a.frozen? ⟨b,f,N⟩=CS:=⟨lQ c h,lQ d h,lQ f h⟩
def UI(c d f g:Nat){a:vz}{b:Nat}{i:Array wg}{j:TypeId}(h:a.heap[b]?=O (BV i j (0,0))):a.frozen? ⟨b,c,N⟩=CS/\a.frozen? ⟨b,d,N⟩=CS/\a.frozen? ⟨b,f,N⟩=CS/\a.frozen? ⟨b,g,N⟩=CS:=⟨lQ c h,lQ d h,lQ f h,lQ g h⟩
def UJ(c d f g i:Nat){a:vz}{b:Nat}{j:Array wg}{k:TypeId}(h:a.heap[b]?=O (BV j k (0,0))):a.frozen? ⟨b,c,N⟩=CS/\a.frozen? ⟨b,d,N⟩=CS/\a.frozen? ⟨b,f,N⟩=CS/\a.frozen? ⟨b,g,N⟩=CS/\a.frozen? ⟨b,i,N⟩=CS:=⟨lQ c h,lQ d h,lQ f h,lQ g h,lQ i h⟩
def UK(c d f g i j:Nat){a:vz}{b:Nat}{k:Array wg}{l:TypeId}(h:a.heap[b]?=O (BV k l (0,0))):a.frozen? ⟨b,c,N⟩=CS/\a.frozen? ⟨b,d,N⟩=CS/\a.frozen? ⟨b,f,N⟩=CS/\a.frozen? ⟨b,g,N⟩=CS/\a.frozen? ⟨b,i,N⟩=CS/\a.frozen? ⟨b,j,N⟩=CS:=⟨lQ c h,lQ d h,lQ f h,lQ g h,lQ i h,lQ j h⟩
def UL(c d f g i j k:Nat){a:vz}{b:Nat}{l:Array wg}{m:TypeId}(h:a.heap[b]?=O (BV l m (0,0))):a.frozen? ⟨b,c,N⟩=CS/\a.frozen? ⟨b,d,N⟩=CS/\a.frozen? ⟨b,f,N⟩=CS/\a.frozen? ⟨b,g,N⟩=CS/\a.frozen? ⟨b,i,N⟩=CS/\a.frozen? ⟨b,j,N⟩=CS/\a.frozen? ⟨b,k,N⟩=CS:=⟨lQ c h,lQ d h,lQ f h,lQ g h,lQ i h,lQ j h,lQ k h⟩
end
end Go
namespace Go.Proofs.YtgkljcmjnphpeaaGreatDoor
open Go.RowKit
section
def nth(d:List Nat)(a:Nat):Nat:=d.getD a 0
def qi(w:vz)(e:Nat)(f:Option wT)(c:List Nat):Prop:=∀a,a<G c->∃b d,f=O ⟨b,d,N⟩/\b<e/\w.cell? ⟨b,d+a,N⟩=O (I .u8 (nth c a:Nat))
structure Rd(B e f c cap:Nat)(d:List Nat)(most:Nat)(w:vz)(p:Nat)(g:wg)(a:List Nat):Prop where
 hB:f<B
 hb:B<=e
 blk:w.heap[e]?=O (BV #[Z (O ⟨f,c,N⟩) (G d) cap,I U p,g,I U most] 141 (0,0))
 dat:∀i,i<G d->w.cell? ⟨f,c+i,N⟩=O (I .u8 (nth d i:Nat))
 own:w.ownsRow B 5 1 g (G a) (a.map λx:Nat=>I .u8 (x:Int))
 byt:∀i,i<G d->nth d i<256
 cp:G d<=cap
 lc:cap<=9223372036854775807
 lm:most<=1000000
 lo:G a<=most
 lp:p<=G d
variable{B e f c cap:Nat}{d:List Nat}{most:Nat}{w:vz}{p:Nat}{g:wg}{a:List Nat}
def posOf(e:Nat)(w:vz):Nat:=(intOf ((w.cell? ⟨e,1,N⟩).getD undef)).toNat
def _root_.Go.RowKit.Hid.o{p:Prop}(h:wt p):p:=h
def H{q:Prop}(h:q):wt q:=h
def infoByte:(Tryz.prog.info? 5).map (λb=>(b.zero,b.size,b.bytes))=O (O (I .u8 0),1,1):=by kernel_rfl
end
section
variable{B h g e b:Nat}{d:List Nat}{a:Nat}{w:vz}{p:Nat}{i:wg}{f:List Nat}
def wB(c:Nat):Bool:=c==0||c==9||c==10||c==12||c==13||c==32
end
def gR(a:Nat):Nat:=if a<10 then 48+a else 87+a
def iG(a:Nat):Option Nat:=if 48<=a/\a<=57 then O (a-48)else if 97<=a/\a<=102 then O (a-97+10)else if 65<=a/\a<=70 then O (a-65+10)else N
def iL(a:List Nat):List Nat:=a.flatMap λb=>[gR (b/16),gR (b%16)]
def Ha(a:Nat):Bool:=a==0||a==9||a==10||a==12||a==13||a==32
def qD(b:Nat)(a:List Nat):iL (b::a)=gR (b/16)::gR (b%16)::iL a:=by simp[iL]
def rj(a b:List Nat):iL (a++b)=iL a++iL b:=by simp[iL]
def mn(a:List Nat):(iL a).length=2*G a:=by
 induction a with
 |nil=>rfl
 |cons b a c=>rw[qD];simp[c];omega
def sh(a:Nat)(h:a<16):iG (gR a)=O a:=by have:∀a:Fin 16,iG (gR a.val)=O a.val:=bF;exact this ⟨a,h⟩
def vR(a:Nat)(h:a<16):gR a<256:=by unfold gR;split<;>omega
end Go.Proofs.YtgkljcmjnphpeaaGreatDoor
namespace Go
section
section
variable{P:Program}{g:Array Oper}{Q:Exit->xq->vz->Prop}{m:Region.Mode}{S:Array Bool->vz->Prop}
def oX(m:Region.Mode)(g:Array Oper)(a:Array Bool):Prop:=
 ∀c d,g[c]?=O d->a.getD c CS=CD->∀b∈d.after,Region.binds m b=CD->a.getD b.on CS=CD
def oX.set{i:Nat}{L:Array Bool}(h:oX m g L)(l:i∈Region.ready m g L):oX m g (L.setIfInBounds i CD):=by
 intro f j e n a c b;by_cases d:i=f
 ·subst d;obtain⟨_,p,o,k⟩:=mem_ready.1 l;obtain rfl:j=p:=d9 (e.s.t o);exact getD_set_true (k a c b)
 ·exact getD_set_true (h f j e (by rwa [getD_set_ne CS d]at n) a c b)
def oX.start(a:Nat):oX m g (Array.replicate a CS):=by
 intro c d _ b;have:(Array.replicate a CS).getD c CS=CS:=by rcases cW c a with h|h<;>simp[h]
 rw[this]at b;cases b
def AG(m:Region.Mode)(g:Array Oper)(b:Nat):Nat->Nat->Bool
 |0,_=>CS
 |c+1,d=>match g[d]? with
  |none=>CS
  |some e=>e.after.any λa=>Region.binds m a&&(a.on==b||AG m g b c a.on)
def oX.came{c:Array Bool}(h:oX m g c){l:Nat}:∀(d b:Nat),AG m g l d b=CD->c.getD b CS=CD->c.getD l CS=CD
 |0,_,a,_=>by cases a
 |d+1,b,a,o=>by
  unfold AG at a;cases j:g[b]? with
  |none=>rw[j]at a;cases a
  |some n=>
   rw[j]at a;simp only[Array.any_eq_true]at a;obtain⟨k,p,f⟩:=a;simp only[a_,Bool.or_eq_true,beq_iff_eq]at f;have i:=h b n j o n.after[k] (Array.getElem_mem _) f.1;rcases f.2 with e|e;·rw[e]at i;exact i
   ·exact h.came d _ e i
def uL(P:Program)(m:Region.Mode)(g:Array Oper)(Q:Exit->xq->vz->Prop)(S:Array Bool->vz->Prop):Nat->Array Bool->xq->vz->Prop
 |0,a,b,c=>Region.ready m g a=[]/\Q .normal b c
 |f+1,a,b,c=>(Region.ready m g a=[]->Q .normal b c) /\
  ∀i∈Region.ready m g a,wpOp P g Q i (λe d=>S (a.setIfInBounds i CD) d/\uL P m g Q S f (a.setIfInBounds i CD) e d) b c
def G7:∀(a:Nat) (b:Array Bool) (c:xq) (d:vz),uL P m g Q S a b c d->wpAny P m g Q a b c d
 |0,_,_,_,h=>h
 |a+1,_,_,_,h=>⟨h.1,λj i=>wpOp_mono (λe k f=>G7 a _ e k f.2) (h.2 j i)⟩
def yx(m:Region.Mode)(g:Array Oper)(S:Array Bool->vz->Prop)(c:Nat)(b:vz):Prop:=∃a,oX m g a/\a.getD c CD=CS/\S a b
def Kp{c:Nat}{p:Oper}{B:wg}(z:g[c]?=O p)(T:∀(d:Nat) (V:Oper) s b,g[d]?=O V->V.op≠.select s b)
  (hQ:∀D f j,Q (.panic D) (f.put p.dst B) j->Q (.panic D) f j) (J:∀a r,S a r->S (a.setIfInBounds c CD) r) (aa:∀a r,S (a.setIfInBounds c CD) r->S a r):∀(t:Nat) (a:Array Bool) (f:xq) (j:vz),oX m g a ->(∀d o,g[d]?=O o->d≠c->a.getD d CD=CS->(∀l∈o.after,Region.binds m l=CD->l.on≠c)->p.apart g o=CD) ->c∈Region.ready m g a->YieldsIf P g (yx m g S c) p B f->S a j ->uL P m g Q S t (a.setIfInBounds c CD) (f.put p.dst B) j->uL P m g Q S (t+1) a f j:=by
 intro t;induction t with
 |zero=>
  intro a f j w _ e x u q;refine⟨λh=>(by rw[h]at e;cases e),λd v=>?_⟩;by_cases i:d=c;·subst i;exact x.wpOp z ⟨a,w,(mem_ready.1 e).1,u⟩ ⟨J _ _ u,q⟩
  ·have:=ready_mono v i;rw[q.1]at this;cases this
 |succ t ih=>
  intro a f j w K e x u q;refine⟨λh=>(by rw[h]at e;cases e),λd v=>?_⟩;by_cases i:d=c;·subst i;exact x.wpOp z ⟨a,w,(mem_ready.1 e).1,u⟩ ⟨J _ _ u,q⟩
  have X:=q.2 d (ready_mono v i);obtain⟨R,o,A,ac⟩:=mem_ready.1 v;have L:=(mem_ready.1 e).1;have a0:∀l∈o.after,Region.binds m l=CD->l.on≠c:=by
   intro l he hb ad;have n:=ac l he hb;rw[ad]at n;rcases cW c a.size with y|y;·simp[y]at L n;rw[L]at n;cases n
   ·simp[Array.getElem?_eq_none y]at n
  have n:=wpOp_putIf A (K d o A i R a0) (λs b=>T c p s b z) (λs b=>T d o s b A) hQ x X;refine wpOp_mono (λW w' h3=>?_) n;obtain⟨a2,E,C⟩:=h3;rw[Array.setIfInBounds_comm _ _ (Ne.s i)]at E C;have F:=aa _ _ E;refine⟨F,ih _ W w' (w.set v) ?_ (ready_mono e (Ne.s i)) a2 F C⟩;intro k ok hk al a1 ao;refine K k ok hk al ?_ ao;by_cases M:d=k;·subst M;exact R
  ·rwa [getD_set_ne CD M]at a1
def yO{i:Nat}{e:Oper}{v:wg}{f:Nat}{a:Array Bool}{c:xq}{b:vz}(o:g[i]?=O e)
  (u:Region.noSelect g=CD) (s:Region.free m g a i=CD) (t:(Region.ready m g a).contains i=CD)
  (q:∀j c b,Q (.panic j) (c.put e.dst v) b->Q (.panic j) c b) (n:∀a d,S a d->S (a.setIfInBounds i CD) d) (r:∀a d,S (a.setIfInBounds i CD) d->S a d)
  (k:oX m g a) (w:YieldsIf P g (yx m g S i) e v c) (l:S a b)
  (h:oX m g (a.setIfInBounds i CD)->S (a.setIfInBounds i CD) b->uL P m g Q S f (a.setIfInBounds i CD) (c.put e.dst v) b):uL P m g Q S (f+1) a c b:=
 have p:i∈Region.ready m g a:=by simpa using t
 Kp o (Region.noSelect_spec u) q n r f a c b k (Region.free_spec o s) p w l (h (k.set p) (n _ _ l))
def Kq{i:Nat}{e:Oper}{j:Nat}{c:Array Bool}{b:xq}{a:vz}(f:Region.ready m g c=[i])(s:g[i]?=O e)(o:oX m g c)
  (h:∀d:xq->vz->Prop,Shut (∀b a,S (c.setIfInBounds i CD) a->(oX m g (c.setIfInBounds i CD)->S (c.setIfInBounds i CD) a->uL P m g Q S j (c.setIfInBounds i CD) b a)->d b a)->if Region.wanted e (yielded g b.tmps)=CD then Oper.wp P e b a d Q else d (b.put e.dst undef) a):uL P m g Q S (j+1) c b a:=by
 refine⟨λk=>(by rw[f]at k;cases k),λt n=>?_⟩;rw[f]at n;obtain rfl:=cZ.1 n;have p:=o.set (i:=t) (by rw[f];simp);exact wpOp_step s (λd q=>h d (λb a l r=>q b a ⟨l,r p l⟩))
def lr:(∀(e:xq) (i:Tmp) (f:wg),e.put (O i) f={ e with tmps:=e.tmps.setIfInBounds i f })/\(∀(e:xq) (f:wg),e.put N f=e)/\(∀{α:Type} (a:List α) (b:Nat) (d:α),a.toArray.setIfInBounds b d=(a.set b d).toArray)/\(∀{α:Type} (c:α) (a:List α) (d:α),(c::a).set 0 d=d::a)/\(∀{α:Type} (c:α) (a:List α) (b:Nat) (d:α),(c::a).set (b+1) d=c::a.set b d)/\(∀{α:Type} (a:List α) (b:Nat) (h:b<a.toArray.size),a.toArray[b]=a[b]'(by simpa using h))/\(∀{α:Type} (c:α) (a:List α) (b:Nat) (h:b+1<(c::a).length),(c::a)[b+1]=a[b]'(by simpa using h))/\(∀{α:Type} (c:α) (a:List α) (h:0<(c::a).length),(c::a)[0]=c):=
 ⟨λ_ _ _=>rfl,λ_ _=>rfl,λ_ _ _=>cO,λ_ _ _=>rfl,λ_ _ _ _=>rfl,λ_ _ _=>rfl,λ_ _ _ _=>rfl,λ_ _ _=>rfl⟩
def Tf:(∀(d:xq) (i:Tmp) (f:wg),d.put (O i) f={ d with tmps:=d.tmps.setIfInBounds i f })/\(∀(d:xq) (f:wg),d.put N f=d)/\(∀{a:Type} (b:List a) (e:Nat) (c:a),b.toArray.setIfInBounds e c=(b.set e c).toArray)/\(∀{a:Type} (h:a) (b:List a) (c:a),(h::b).set 0 c=c::b)/\(∀{a:Type} (h:a) (b:List a) (e:Nat) (c:a),(h::b).set (e+1) c=h::b.set e c):=
 ⟨λ_ _ _=>rfl,λ_ _=>rfl,λ_ _ _=>cO,λ_ _ _=>rfl,λ_ _ _ _=>rfl⟩
def sA{a:Prop}(h:a:=by first|exact λ_ _ h=>h|exact λ_ _=>(SItems.set (by decide)).1|exact λ_ _=>(SC2.set (by decide)).1|exact λ_ _=>(yw.set (by decide)).1|exact λ_ _=>(SCell.set (by decide)).1|exact λ_ _=>(SStore.set (by decide)).1|exact λ_ _=>(SO.set (by decide)).1|exact λ_ _=>(SB.set (by decide)).1|exact λ_ _=>Sag.s1 (by decide)):a:=h
def sB{a:Prop}(h:a:=by first|exact λ_ _ h=>h|exact λ_ _=>(SItems.set (by decide)).2|exact λ_ _=>(SC2.set (by decide)).2|exact λ_ _=>(yw.set (by decide)).2|exact λ_ _=>(SCell.set (by decide)).2|exact λ_ _=>(SStore.set (by decide)).2|exact λ_ _=>(SO.set (by decide)).2|exact λ_ _=>(SB.set (by decide)).2|exact λ_ _=>Sag.s2 (by decide)):a:=h
def Shut.o{p:Prop}(h:Shut p):p:=h
def tk(c:Nat)(i:wg){f:Oper}{k:Nat}{a:Array Bool}{d:xq}{b:vz}(l:oX m g a)(w:∀b,yx m g S c b->(execOp d.eval f).run P b=.ok (.value i) b)(o:S a b)
  (h:oX m g (a.setIfInBounds c CD)->S (a.setIfInBounds c CD) b->uL P m g Q S k (a.setIfInBounds c CD) (d.put f.dst i) b)
  (s:g[c]?=O f:=by rfl) (u:Region.noSelect g=CD:=by kernel_rfl) (r:Region.free m g a c=CD:=by kernel_rfl) (t:(Region.ready m g a).contains c=CD:=by kernel_rfl)
  (n:∀j d b,Q (.panic j) (d.put f.dst i) b->Q (.panic j) d b:=by exact λ_ _ _ h=>h)
  (p:∀a e,S a e->S (a.setIfInBounds c CD) e:=by exact sA)
  (q:∀a e,S (a.setIfInBounds c CD) e->S a e:=by exact sB)
  (v:Region.wanted f (yielded g d.tmps)=CD:=by rfl):uL P m g Q S (k+1) a d b:=
 yO s u r t n p q l (C1 ⟨v,w⟩) o h
def on(d:Nat){e:Oper}{i:Nat}{b:Array Bool}{c:xq}{a:vz}(j:oX m g b)
  (h:∀f:xq->vz->Prop,Shut (∀c a,S (b.setIfInBounds d CD) a->(oX m g (b.setIfInBounds d CD)->S (b.setIfInBounds d CD) a->uL P m g Q S i (b.setIfInBounds d CD) c a)->f c a)->if Region.wanted e (yielded g c.tmps)=CD then Oper.wp P e c a f Q else f (c.put e.dst undef) a)
  (l:Region.ready m g b=[d]:=by kernel_rfl) (k:g[d]?=O e:=by rfl):uL P m g Q S (i+1) b c a:=
 Kq l k j h
def tj(i:Nat){v:wg}{f:xq}{e:Oper}{k:Nat}{a:Array Bool}{c:xq}{b:vz}(l:oX m g a)(o:S a b)
  (h:oX m g (a.setIfInBounds i CD)->S (a.setIfInBounds i CD) b->uL P m g Q S k (a.setIfInBounds i CD) f b)
  (t:g[i]?=O e:=by rfl) (w:Region.noSelect g=CD:=by kernel_rfl) (s:Region.free m g a i=CD:=by kernel_rfl) (u:(Region.ready m g a).contains i=CD:=by kernel_rfl)
  (n:∀j c b,Q (.panic j) (c.put e.dst v) b->Q (.panic j) c b:=by exact λ_ _ _ h=>h)
  (p:∀a d,S a d->S (a.setIfInBounds i CD) d:=by exact sA)
  (q:∀a d,S (a.setIfInBounds i CD) d->S a d:=by exact sB)
  (x:Region.wanted e (yielded g c.tmps)=CD:=by rfl)
  (y:∀b,yx m g S i b->(execOp c.eval e).run P b=.ok (.value v) b:=by intro d z;go_simp;try(with_reducible rfl))
  (r:c.put e.dst v=f:=by(try simp only[lr]);exact rfl):uL P m g Q S (k+1) a c b:=
 by subst r;exact yO t w s u n p q l (C1 ⟨x,y⟩) o h
def tl(i:Nat){v:wg}{f:xq}{e:Oper}{k:Nat}{a:Array Bool}{c:xq}{b:vz}(l:oX m g a)(o:S a b)
  (h:oX m g (a.setIfInBounds i CD)->S (a.setIfInBounds i CD) b->uL P m g Q S k (a.setIfInBounds i CD) f b)
  (t:g[i]?=O e:=by rfl) (w:Region.noSelect g=CD:=by kernel_rfl) (s:Region.free m g a i=CD:=by kernel_rfl) (u:(Region.ready m g a).contains i=CD:=by kernel_rfl)
  (n:∀j c b,Q (.panic j) (c.put e.dst v) b->Q (.panic j) c b:=by exact λ_ _ _ h=>h)
  (p:∀a d,S a d->S (a.setIfInBounds i CD) d:=by exact sA)
  (q:∀a d,S (a.setIfInBounds i CD) d->S a d:=by exact sB)
  (x:Region.wanted e (yielded g c.tmps)=CD:=by rfl) (y:∀b,yx m g S i b->(execOp c.eval e).run P b=.ok (.value v) b)
  (r:c.put e.dst v=f:=by(try simp only[lr]);exact rfl):uL P m g Q S (k+1) a c b:=
 by subst r;exact yO t w s u n p q l (C1 ⟨x,y⟩) o h
def sC{d:Prop}(h:d:=by intro f b;first|(obtain⟨_,_,_,a,c,e,i,j,k⟩:=b;go_simp;(try(with_reducible rfl));done)|(obtain⟨_,_,_,a,c,e⟩:=b;go_simp;(try(with_reducible rfl));done)|(obtain⟨_,_,_,a,c⟩:=b;go_simp;(try(with_reducible rfl));done)|(have a:=heldF0 b;clear b;go_simp;(try(with_reducible rfl));done)|(obtain⟨_,_,_,a⟩:=b;(first|unfold Sst at a|unfold Sml at a|unfold Sor at a);go_simp;(try(with_reducible rfl));done)):d:=h
def tm(c:Nat){i:wg}{j:xq}{f:Oper}{l:Nat}{a:Array Bool}{d:xq}{b:vz}(n:oX m g a)(p:S a b)
  (h:oX m g (a.setIfInBounds c CD)->S (a.setIfInBounds c CD) b->uL P m g Q S l (a.setIfInBounds c CD) j b)
  (u:g[c]?=O f:=by rfl) (w:Region.noSelect g=CD:=by kernel_rfl) (t:Region.free m g a c=CD:=by kernel_rfl) (v:(Region.ready m g a).contains c=CD:=by kernel_rfl)
  (o:∀k d b,Q (.panic k) (d.put f.dst i) b->Q (.panic k) d b:=by exact λ_ _ _ h=>h)
  (q:∀a e,S a e->S (a.setIfInBounds c CD) e:=by exact sA)
  (r:∀a e,S (a.setIfInBounds c CD) e->S a e:=by exact sB)
  (x:Region.wanted f (yielded g d.tmps)=CD:=by rfl) (y:∀b,yx m g S c b->(execOp d.eval f).run P b=.ok (.value i) b:=by exact sC)
  (s:d.put f.dst i=j:=by(try simp only[lr]);exact rfl):uL P m g Q S (l+1) a d b:=
 by subst s;exact yO u w t v o q r n (C1 ⟨x,y⟩) p h
def tv(b:Nat){i:xq}{f:Oper}{k:Nat}{a:Array Bool}{d:xq}{c:vz}(l:oX m g a)(o:S a c)
  (h:oX m g (a.setIfInBounds b CD)->S (a.setIfInBounds b CD) c->uL P m g Q S k (a.setIfInBounds b CD) i c)
  (t:g[b]?=O f:=by rfl) (v:Region.noSelect g=CD:=by kernel_rfl) (s:Region.free m g a b=CD:=by kernel_rfl) (u:(Region.ready m g a).contains b=CD:=by kernel_rfl)
  (n:∀j d c,Q (.panic j) (d.put f.dst undef) c->Q (.panic j) d c:=by exact λ_ _ _ h=>h)
  (p:∀a e,S a e->S (a.setIfInBounds b CD) e:=by exact sA)
  (q:∀a e,S (a.setIfInBounds b CD) e->S a e:=by exact sB)
  (w:Region.wanted f (yielded g d.tmps)=CS:=by rfl)
  (r:d.put f.dst undef=i:=by(try simp only[lr]);exact rfl):uL P m g Q S (k+1) a d c:=
 by subst r;exact yO t v s u n p q l (C2 ⟨w,rfl⟩) o h
def uX{a:Array Bool}{b:xq}{d:vz}(c:Region.ready m g a=[])(h:Q .normal b d):∀e,uL P m g Q S e a b d
 |0=>⟨c,h⟩
 |_+1=>⟨λ_=>h,by rw[c];simp⟩
def AX{id:Nat}{a:xq}{b:vz}(S:Array Bool->vz->Prop)(c:P.follows .mixedOrders=CD)
  (h:oX .any g (Array.replicate g.size CS)->uL P .any g Q S g.size (Array.replicate g.size CS) a b.drew):(Code.region id g CD).wp P Q a b:=
 wp_region_any c (G7 _ _ _ _ (h (oX.start _)))
end
end
section
open Go.RowKit
def BF(b:Nat)(j:TypeId)(i:Nat×Nat):∀(e:List wg) (c:Nat) (g:vz) (d:Array wg),g.heap[b]?=O (BV d j i) ->∃f:Array wg,(g.setCells b c e).heap[b]?=O (BV f j i)/\f.size=d.size/\∀a,f[a]?=if c<=a/\a<c+G e/\a<d.size then e[a-c]? else d[a]?
 | [],c,g,d,h=>⟨d,h,rfl,λa=>by rw[aj eS]⟩
 |k::e,c,g,d,h=>by
  obtain⟨f,o,p,q⟩:=BF b j i e (c+1) (g.setCell ⟨b,c,N⟩ k) (d.setIfInBounds c k) (nu k h);refine⟨f,o,by rw[p];simp,λa=>?_⟩;rw[q a,fZ];by_cases l:c+1<=a/\a<c+1+G e/\a<d.size;·rw[ak l,ak eS,show a-c=(a-(c+1))+1 by omega,eY]
  ·rw[aj l];by_cases m:c=a
   ·subst m;by_cases n:c<d.size;·rw[ak eS];simp[n]
    ·rw[aj Y];simp[n]
   ·rw[aj eS,dB m]
def Ep{e:vz}{b:Nat}{d:TypeId}{c:Nat×Nat}{a:Array wg}{vs:List wg}(h:e.heap[b]?=O (BV a d c))(n:a.size=G vs):(e.setCells b 0 vs).heap[b]?=O (BV vs.toArray d c):=by
 obtain⟨o,g,i,j⟩:=BF b d c vs 0 e a h;rw[g];congr 2;apply Array.ext (by simp[i,n]);intro f l m;have:=j f;rw[ak ⟨Y,Y,Y⟩,Nat.sub_zero]at this;have k:f<G vs:=by simpa using m
 rw[bX l,af k]at this;simpa using this
def yM(b:Nat){k:Nat}(d:k≠b):∀(vs:List wg) (a:Nat) (c:vz),(c.setCells b a vs).heap[k]?=c.heap[k]?
 | [],_,_=>rfl
 |v::vs,a,c=>by show((c.setCell ⟨b,a,N⟩ v).setCells b (a+1) vs).heap[k]?=_;rw[yM b d vs (a+1),lK _ d]
def xi(b a:Nat)(f:a<=b):∀(vs:List wg) (d:Nat) (c e:vz),wm a c e->wm a c (e.setCells b d vs)
 | [],_,_,_,h=>h
 |v::vs,d,c,e,h=>xi b a f vs (d+1) c _ (h.setCell f v)
def BA(b:Nat):∀(vs:List wg) (a:Nat) (c:vz),(c.setCells b a vs).heap.size=c.heap.size
 | [],_,_=>rfl
 |d::vs,a,c=>by show((c.setCell ⟨b,a,N⟩ d).setCells b (a+1) vs).heap.size=_;rw[BA b vs (a+1)];simp
end
section
def Cy{o:Program}{e:vz}{A:Array Oper}{d:Oper}{c:xq}{x:xq->vz->Prop}{C:Exit->xq->vz->Prop}{B:Prop}(L:d.guard=N)(s u:Operand)(m:TypeId)
  (R:d.op=.call { callee:=.builtin .append,args:=#[s,u],argTypes:=#[m,m]})
  (l:Nat) (f:TypeId) (g:TypeInfo) (w:wg) (b q:Nat) (X:o.underlying m=O (.slice f)) (M:o.info? f=O g) (hz:g.zero=O w)
  (V:g.size=b) (J:g.bytes=q) (aa:w.cells.size=b) (W:0<b)
  (k:wg) (i:Nat) (v:List wg) (T:c.eval s=k) (S:e.ownsRow l f b k i v)
  (p:wT) (a y:Nat) (j:List wg) (hx:c.eval u=Z (O p) a y) (P:G j=a*b) (Q:∀z n,j[z]?=O n->e.cell? (p.add z)=O n) (D:∀n∈j,n.oneCell'=CD)
  (E:i+a<=maxLen) (K:(i+a)*q<=140737488355328) (F:l<=e.heap.size)
  (h:∀r t,t.ownsRow l f b r (i+a) (v++j)->e.grownBy t k.ownBlock->(r=Z N 0 0↔k=Z N 0 0/\a=0)->x (c.put d.dst r) t):if Region.wanted d (yielded A c.tmps)=CD then Oper.wp o d c e x C else B:=by
 have hw:Region.wanted d (yielded A c.tmps)=CD:=by simp[Region.wanted,L]
 rw[ak hw];exact wp_append_own e s u m R l f g w b q X M hz V J aa W k i v T S p a y j hx P Q D E K F h
section
variable{P:Program}{w:vz}
def sK(a b:Nat):(⟨a,0,N⟩:wT).add b=⟨a,b,N⟩:=by unfold Addr.add;split<;>simp_all
end
end
section
open Go.RowKit
variable{P:Program}{w:vz}
def JW(r:Nat)(o p x c:TypeId)(f:TypeInfo)(l:wg)(K:Nat)(D:P.underlying o=O (.slice c))(A:P.info? c=O f)(V:f.zero=O l)
  (v:f.size=1) (al:f.bytes=K) (a3:l.cells.size=1) (F:wg) (a:Nat) (g:List wg) (C:w.ownsRow r c 1 F a g)
  (q:wg) (b:Nat) (d:List wg) (u:Src P f.size p q b d w) (hm:0<b) (R:a+b<=maxLen) (S:(a+b)*K<=140737488355328) (ac:r<=w.heap.size):∃X J,(Builtin.append_ #[o,p] x #[F,q]).run P w=.ok X J/\J.ownsRow r c 1 X (a+b) (g++d)/\w.grownBy J F.ownBlock:=by
 subst al;have hl:G d=b:=by have:=u.newsLen;rw[v]at this;omega
 have E:G g=a:=by have:=C.1;omega
 have a7:a+b<=9223372036854775807:=by simp only[maxLen]at R;omega
 have t:(g++d).length=(a+b)*1:=by rw[ab,E,hl];omega
 have Q:∀(j:Nat),j<a+b->∀(W:Option Nat),
   (w.drew.alloc (BV ((g++d).toArray++Builtin.zeroCells l.cells (grownCap w (a+b) j c-(a+b))) c)).ownsRow r c 1
    (Z (O ⟨w.heap.size,0,N⟩) (a+b) (grownCap w (a+b) j c)) (a+b) (g++d) /\
   w.grownBy (w.drew.alloc (BV ((g++d).toArray++Builtin.zeroCells l.cells (grownCap w (a+b) j c-(a+b))) c)) W:=by
  intro j ho W;have ao:=grownCap_ge w (a+b) j c;have y:=fL w (a+b) j c R;refine⟨⟨t,.inr ⟨w.heap.size,_,_,rfl,ac,heap_alloc_new w.drew _,ao,y,?_,?_⟩⟩,⟨rfl,rfl,rfl,cO,λk B _=>fE w.drew _ k B⟩⟩
  ·simp only[Array.size_append,dN,size_zeroCells,a3,t];omega
  ·simp only[Array.toList_append];rw[<-t];exact List.take_left
 rcases C.2 with⟨rfl,rfl⟩|⟨e,h,M,rfl,ad,z,a6,y,a4,a2⟩
 ·obtain rfl:g=[]:=dh E;have n:=run_append_grow_src (P:=P) w o p x c f l D A V N 0 0 [] (run_firstCells_none w.drew f.size 0 0 0) q b d u Y Y (fD Y S);have m:=Q 0 Y (Value.ownBlock (Z N 0 0));exact⟨_,_,n,m.1,m.2⟩
 ·by_cases T:a+b<=h
  ·have a5:M.size=h:=Y;have a1:∀i,i<G d->(w.cell? ⟨e,0+a*f.size+i,N⟩).isSome=CD:=λi s=>by rw[cb z,v,bX Y];rfl
   have n:=run_append_room_src (P:=P) w o p x c f D A e 0 a h q b d u T a1 (λi s=>pA z);obtain⟨aa,h1,h2,h3⟩:=BF e c (0,0) d (0+a*f.size) w M z;refine⟨_,_,n,⟨t,.inr ⟨e,h,aa,rfl,ad,h1,T,y,Y,?_⟩⟩,⟨?_,?_,?_,by rw[BA];exact ag _,λk _ B=>yM e (λc=>B (by simp[Value.ownBlock,c])) d _ w⟩⟩
   ·apply List.ext_getElem?;intro i;have s:=h3 i;rw[v]at s;rw[fg];by_cases L:i<(a+b)*1
    ·rw[ak L,dG,s];by_cases c2:a<=i
     ·rw[ak ⟨Y,Y,Y⟩,aW Y,E];congr 1;omega
     ·rw[aj Y,aR Y,<-a2,fg,ak Y,dG]
    ·rw[aj L,List.getElem?_eq_none Y]
   ·exact(xi e 0 (aw _) d _ w w (ar 0 w)).os
   ·exact(xi e 0 (aw _) d _ w w (ar 0 w)).tape
   ·exact(xi e 0 (aw _) d _ w w (ar 0 w)).output
  ·have a0:=C.cells (g:=e) rfl;have hf:=run_firstCells_some (P:=P) w.drew f.size a ⟨e,0,N⟩ a h g (by rw[v];omega) (by simpa using a0);have n:=run_append_grow_src (P:=P) w o p x c f l D A V (O ⟨e,0,N⟩) a h g hf q b d u Y Y (fD Y S);have m:=Q h Y (Value.ownBlock (Z (O ⟨e,0,N⟩) a h));exact⟨_,_,n,m.1,m.2⟩
def AC{t:Array Oper}{u:List Oper}{e:Oper}{g:xq}{s:Exit->xq->vz->Prop}(D:e.guard=N)(v x:Operand)(n o:TypeId)
  (J:e.op=.call { callee:=.builtin .append,args:=#[v,x],argTypes:=#[n,o]})
  (i:Nat) (c:TypeId) (a:TypeInfo) (r:wg) (l:Nat) (R:P.underlying n=O (.slice c)) (E:P.info? c=O a) (V:a.zero=O r)
  (Q:a.size=1) (B:a.bytes=l) (W:r.cells.size=1) (j:wg) (d:Nat) (p:List wg) (S:g.eval v=j) (K:w.ownsRow i c 1 j d p)
  (q:wg) (b:Nat) (m:List wg) (T:g.eval x=q) (M:Src P a.size o q b m w) (F:0<b) (y:d+b<=maxLen) (C:(d+b)*l<=140737488355328) (A:i<=w.heap.size)
  (h:∀k f,f.ownsRow i c 1 k (d+b) (p++m)->w.grownBy f j.ownBlock->wpList P t s u (g.put e.dst k) f):wpList P t s (e::u) g w:=by
 refine fG D λaa z=>?_;obtain⟨k,f,L,X,r2⟩:=JW (P:=P) i n o e.type c a r l R E V Q B W j d p K q b m M F y C A;unfold Oper.wp;simp[execOp,J,resolve,invoke,builtin,S,T,L,Result.andThen];exact z _ _ (h k f X r2)
end
section
open Go.RowKit
def Hf(a:Nat)(h:a<2^63):IntKind.i64.wrap (a:Int)=a:=by rw[bu];omega
def Io(a:Nat)(b:a<2^63):(BitVec.ofInt 64 (a:Int)).toNat=a:=by rw[BitVec.ofInt_natCast,BitVec.toNat_ofNat];omega
def QW(a b:Nat)(c:a<2^63)(d:b<2^63):bits .and U (a:Int) (b:Int)=((a &&& b:Nat):Int):=by show IntKind.i64.wrap ((BitVec.ofInt 64 (a:Int) &&& BitVec.ofInt 64 (b:Int)).toNat:Int)=_;rw[BitVec.toNat_and,Io a c,Io b d,Hf _ (eV Nat.and_le_left c)]
def Ir(b c a:Nat)(d:b<2^a):b ||| c*2^a=b+c*2^a:=by rw[Nat.or_comm,dK,<-Nat.two_pow_add_eq_or_of_lt d,Nat.add_comm]
def Uo(a:Nat)(h:a<2^63):wrap64 (a:Int)=a:=by unfold wrap64;omega
end
end Go
namespace Go.Proofs.YtgkljcmjnphpeaaGreatDoor
open Go.RowKit
def jz(b:Nat):List Bool:=[b.testBit 0,b.testBit 1,b.testBit 2,b.testBit 3,b.testBit 4,b.testBit 5,b.testBit 6,b.testBit 7]
def gH(a:List Nat):List Bool:=a.flatMap jz
def mj(b:Nat):(jz b).length=8:=rfl
def nx(b:Nat)(a:List Nat):gH (b::a)=jz b++gH a:=by simp[gH]
def jH(a b:List Nat):gH (a++b)=gH a++gH b:=by simp[gH]
def gW(a:List Nat):(gH a).length=8*G a:=by
 induction a with
 |nil=>rfl
 |cons b a c=>rw[nx,ab,mj,c,ai];omega
def ix:List Bool->Nat
 | []=>0
 |b::a=>b.toNat+2*ix a
def gg:Nat->Nat->List Bool
 |0,_=>[]
 |b+1,a=>(a%2==1)::gg b (a/2)
def gM(a b:Nat):(gg a b).length=a:=by
 induction a generalizing b with
 |zero=>rfl
 |succ a c=>simp[gg,c]
def rP(a b:Nat):ix (gg a b)=b%2^a:=by
 induction a generalizing b with
 |zero=>simp[gg,ix,Nat.mod_one]
 |succ a c=>simp only[gg,ix,c];rw[c_,dK (2^a) 2,Nat.mod_mul];rcases dY b with h|h<;>simp[h]
def qZ(b:Nat)(h:b<256):ix (jz b)=b:=by
 have:∀b:Fin 256,ix (jz b.val)=b.val:=by decide +kernel
 exact this ⟨b,h⟩
def vI(b:Nat):jz b=gg 8 b:=by simp only[jz,gg,Nat.testBit,Nat.shiftRight_succ,Nat.shiftRight_zero,Nat.one_and_eq_mod_two];simp[cR]
def pU(a:List Bool):ix a<2^(G a):=by
 induction a with
 |nil=>simp[ix]
 |cons b a c=>simp only[ix,ai,c_];cases b<;>simp<;>omega
def nJ(c:List Nat)(a:Nat)(b:List Bool):Prop:=
 a<8/\G b%8=a/\(∀d∈c,d<256)/\gH c=b++DJ ((8-a)%8) CS
def nJ.nil:nJ [] 0 []:=⟨Y,rfl,cO,rfl⟩
def nJ.bit0{d c}(h:nJ d 0 c)(b:Bool):nJ (d++[b.toNat]) 1 (c++[b]):=by
 obtain⟨_,i,e,f⟩:=h;refine⟨Y,eS,?_,?_⟩
 ·intro g a;rcases aZ.1 a with a|a;·exact e g a
  ·simp at a;subst a;cases b<;>decide
 ·rw[jH,f];cases b<;>simp[gH,jz,DJ]<;>decide
def C4(d a:Nat)(b:Bool)(f:a<8):jz (d ||| (b.toNat <<< a))=(jz d).set a (d.testBit a||b):=by
 have e:∀c,(b.toNat).testBit c=(b&&decide (c=0)):=by intro c;cases b<;>cases c<;>simp[Nat.testBit_succ]
 simp only[jz,Nat.testBit_or,Nat.testBit_shiftLeft,e];match a,f with
 |0,_=>simp
 |1,_=>simp
 |2,_=>simp
 |3,_=>simp
 |4,_=>simp
 |5,_=>simp
 |6,_=>simp
 |7,_=>simp
def D9(a b:Nat)(c:a<256)(d:b<256):a ||| b<256:=Nat.or_lt_two_pow (n:=8) c d
def nJ.bit{pre:List Nat}{f a:Nat}{e}(h:nJ (pre++[f]) a e)(q:0<a)(b:Bool):nJ (pre++[f ||| (b.toNat <<< a)]) ((a+1)%8) (e++[b]):=by
 obtain⟨k,t,l,i⟩:=h;have m:=cX List.length i;rw[jH,ab,gW,ab,bj]at m;simp[gH,jz]at m;have p:e=gH pre++e.drop (8*G pre):=by have g:=cX (List.take (8*G pre)) i;rw[jH,List.take_append_of_le_length pg,aP pg,List.take_append_of_le_length Y]at g;rw[g,cQ]
 have n:jz f=e.drop (8*G pre)++DJ (8-a) CS:=by have g:=cX (List.drop (8*G pre)) i;rw[jH,d8 (by rw[gW]),List.drop_append_of_le_length Y,show(8-a)%8=8-a by omega]at g;simpa[gH]using g
 have j:(e.drop (8*G pre)).length=a:=by rw[aU];omega
 refine⟨Y,eS,?_,?_⟩
 ·intro s d;rcases aZ.1 d with d|d;·exact l s (List.mem_append_left _ d)
  ·simp at d;subst d;refine D9 _ _ (l f cO) ?_;have:b.toNat<=1:=by cases b<;>decide
   have u:2^a<=2^7:=aY Y Y;rw[Nat.shiftLeft_eq];have v:b.toNat*2^a<=1*2^a:=dx _ this;omega
 ·rw[p,jH];generalize e.drop (8*G pre)=w at *;have d:f.testBit a=CS:=by
   have c:=cX (λr=>r[a]?) n;simp only[aW (Nat.le_of_eq j),j,eJ]at c;match a,q,k with
   |1,_,_=>simpa[jz]using c
   |2,_,_=>simpa[jz]using c
   |3,_,_=>simpa[jz]using c
   |4,_,_=>simpa[jz]using c
   |5,_,_=>simpa[jz]using c
   |6,_,_=>simpa[jz]using c
   |7,_,_=>simpa[jz]using c
  have:gH [f ||| (b.toNat <<< a)]=jz (f ||| (b.toNat <<< a)):=by simp[gH]
  rw[this,C4 _ _ _ k,n,d,au,au];congr 1;rw[fO _ _ Y,j,eJ];have o:DJ (8-a) CS=CS::DJ (7-a) CS:=by rw[show 8-a=(7-a)+1 by omega,eI]
  rw[o,show(8-(a+1)%8)%8=7-a by omega];simp
def nJ.align{b c a}(h:nJ b c a):nJ b 0 (a++DJ ((8-c)%8) CS):=by obtain⟨f,g,d,e⟩:=h;exact⟨Y,eS,d,by simp[e]⟩
def nJ.bytes{d c}(h:nJ d 0 c)(l:List Nat)(g:∀b∈l,b<256):nJ (d++l) 0 (c++gH l):=by
 obtain⟨_,i,e,f⟩:=h;refine⟨Y,?_,?_,?_⟩;·rw[ab,gW];omega
 ·intro b a;rcases aZ.1 a with a|a;·exact e b a
  ·exact g b a
 ·rw[jH,f];simp
def Cm(a:List Nat):List Nat:=(List.range 16).map λk=>if k=0 then 0 else a.count k
def Cx(a:List Nat):List Nat:=(List.range 16).flatMap λk=>if k=0 then[]else(List.range (G a)).filter λb=>a.getD b 0==k
def kP(a c:List Nat):Nat->Nat->Nat->Nat->Nat->List Bool->Option (Nat×List Bool)
 |0,_,_,_,_,_=>N
 |_+1,_,_,_,_,[]=>N
 |k+1,len,code,first,place,b::r=>
  if 2*code+b.toNat<2*first+a.getD len 0 then O (c.getD (place+(2*code+b.toNat)-2*first) 0,r)
  else kP a c k (len+1) (2*code+b.toNat) (2*first+a.getD len 0) (place+a.getD len 0) r
def kg(a b:List Nat)(r:List Bool):Option (Nat×List Bool):=kP a b 15 1 0 0 0 r
def Af(a f:List Nat)(k len code first place:Nat)(r g:List Bool)(e:Nat)(d:List Bool)
  (h:kP a f k len code first place r=O (e,d)):kP a f k len code first place (r++g)=O (e,d++g):=by
 induction k generalizing len code first place r with
 |zero=>simp[kP]at h
 |succ k i=>
  cases r with
  |nil=>simp[kP]at h
  |cons b r=>
   simp only[kP,bH]at h ⊢;by_cases c:2*code+b.toNat<2*first+a.getD len 0
   ·rw[ak c]at h ⊢;simp at h;simp[h.1,h.2]
   ·rw[aj c]at h ⊢;exact i _ _ _ _ _ h
def gG(b:Nat):Nat->List Bool
 |0=>[]
 |a+1=>(b >>> a%2==1)::gG b a
def Ck(c:List Nat):List Nat->Nat->Nat->Nat->List (Nat×Nat×Nat)
 | [],_,_,_=>[]
 |a::d,len,gC,place=>((List.range a).map λb=>(c.getD (place+b) 0,2*gC+b,len))++Ck c d (len+1) (2*gC+a) (place+a)
def xt(a b:List Nat):List (Nat×Nat×Nat):=Ck b a.tail 1 0 0
def Ar(b d:List Nat)(c:Nat):List (Nat×Nat):=(xt b d).foldl (λe a=>e.set a.1 (a.2.1,a.2.2)) (DJ c (0,0))
def j_:List Nat:=DJ 144 8++DJ 112 9++DJ 24 7++DJ 8 8
def j9:List Nat:=DJ 32 5
def nG:List Nat:=Cm j_
def mL:List Nat:=Cx j_
def nE:List Nat:=Cm j9
def mK:List Nat:=Cx j9
def lh:List (Nat×Nat):=Ar nG mL 288
def mw:List (Nat×Nat):=Ar nE mK 32
def jB(b:List (Nat×Nat))(a:Nat):List Bool:=gG (b.getD a (0,0)).1 (b.getD a (0,0)).2
def Ba:∀a:Fin 288,kg nG mL (jB lh a.val)=O (a.val,[]):=by decide +kernel
def Dx:∀a:Fin 32,kg nE mK (jB mw a.val)=O (a.val,[]):=by decide +kernel
def xW(a:Nat)(h:a<288)(r:List Bool):kg nG mL (jB lh a++r)=O (a,r):=by have:=Af _ _ _ _ _ _ _ _ r _ _ (Ba ⟨a,h⟩);simpa[kg]using this
def ED(a:Nat)(h:a<32)(r:List Bool):kg nE mK (jB mw a++r)=O (a,r):=by have:=Af _ _ _ _ _ _ _ _ r _ _ (Dx ⟨a,h⟩);simpa[kg]using this
def gQ(a:Nat):Nat×Nat:=
 if a=285 then(258,0)else if a-257<8 then(3+(a-257),0)else(3+(4+(a-257)%4)*2^((a-257)/4-1),(a-257)/4-1)
def gF(a:Nat):Nat×Nat:=if a<4 then(1+a,0)else(1+(2+a%2)*2^(a/2-1),a/2-1)
def i_(b:Nat->Nat×Nat)(c:Nat):Nat->Nat
 |0=>0
 |a+1=>if c<(b (a+1)).1 then i_ b c a else a+1
def jn(a:Nat):Nat:=i_ gQ a 285
def h_(a:Nat):Nat:=i_ gF a 29
def s9:∀a:Fin 256,257<=jn (a.val+3)/\jn (a.val+3)<=285/\(gQ (jn (a.val+3))).1<=a.val+3/\a.val+3-(gQ (jn (a.val+3))).1<2^(gQ (jn (a.val+3))).2:=by decide +kernel
def Bf(b:Nat->Nat×Nat)(c a:Nat):i_ b c a<=a:=by
 induction a with
 |zero=>simp[i_]
 |succ a d=>simp only[i_];split<;>omega
def Bj(a:Nat->Nat×Nat)(c b:Nat)(d:(a 0).1<=c):(a (i_ a c b)).1<=c:=by
 induction b with
 |zero=>simpa[i_]using d
 |succ b e=>simp only[i_];split<;>first|exact e|omega
def DQ(c:Nat->Nat×Nat)(d a:Nat):i_ c d a=a\/d<(c (i_ c d a+1)).1:=by
 induction a with
 |zero=>simp[i_]
 |succ a b=>
  simp only[i_];by_cases h:d<(c (a+1)).1
  ·rw[ak h];rcases b with b|b;·right;rw[b];exact h
   ·right;exact b
  ·rw[aj h];exact C1 rfl
def Dj:∀a:Fin 30,(gF (a.val+1)).1=(gF a.val).1+2^(gF a.val).2:=by decide +kernel
def r_(a:Nat)(f:1<=a)(h:a<=32768):h_ a<=29/\(gF (h_ a)).1<=a/\a-(gF (h_ a)).1<2^(gF (h_ a)).2:=by
 have d:=Bf gF a 29;have b:=Bj gF a 29 (by simpa[gF]using f);have c:=DQ gF a 29;have e:=Dj ⟨h_ a,by unfold h_;omega⟩;have g:a<(gF (h_ a+1)).1:=by
  rcases c with c|c
  ·have:h_ a=29:=c;rw[this];have:(gF (29+1)).1=32769:=bF;omega
  ·exact c
 simp only[]at e;exact⟨d,b,by unfold h_ at *;omega⟩
def mg(a:Nat)(r:List Bool):Option (Nat×List Bool):=if a<=G r then O (ix (r.take a),r.drop a)else N
def Ax(a b:Nat)(r:List Bool)(h:b<2^a):mg a (gg a b++r)=O (b,r):=by unfold mg;rw[ak (by simp[gM]),List.take_left' (gM a b),d8 (gM a b),rP,dR h]
def kE(b:Nat):Nat->List Nat->List Nat
 |0,a=>a
 |c+1,a=>kE b c (a++[a.getD (G a-b) 0])
def rC(c a:Nat)(b:List Nat):(kE c a b).length=G b+a:=by
 induction a generalizing b with
 |zero=>rfl
 |succ a d=>simp[kE,d];omega
def sY(b a:Nat)(c:List Nat):kE b (a+1) c=kE b a c++[(kE b a c).getD ((kE b a c).length-b) 0]:=by
 induction a generalizing c with
 |zero=>rfl
 |succ a d=>rw[kE,d,kE]
structure nK where
 cs:List Nat
 ss:List Nat
 cd:List Nat
 sd:List Nat
def iM:nK:=⟨nG,mL,nE,mK⟩
def zt:iM.cs=nG:=by simp only[iM]
def zu:iM.ss=mL:=by simp only[iM]
def A8:iM.cd=nE:=by simp only[iM]
def A9:iM.sd=mK:=by simp only[iM]
def iO(d:nK)(h f:Nat)(r:List Bool)(b:List Nat):Except Nat (Bool×List Bool×List Nat):=
 match kg d.cs d.ss r with
 |none=>.error 5
 |some (a,r)=>
  if a<256 then if (G b)+1<=f then .ok (CD,r,b++[a])else .error 6
  else if a=256 then .ok (CS,r,b)
  else if 285<a then .error 5
  else match mg (gQ a).2 r with
   |none=>.error 5
   |some (g,r)=>match kg d.cd d.sd r with
    |none=>.error 5
    |some (c,r)=>if 29<c then .error 5 else match mg (gF c).2 r with
     |none=>.error 5
     |some (e,r)=>
      if(gF c).1+e<=G b/\(gF c).1+e<=h then
       if (G b)+((gQ a).1+g)<=f then .ok (CD,r,kE ((gF c).1+e) ((gQ a).1+g) b)else .error 6
      else .error 5
def zL(b:Nat):List Bool:=jB lh b
def mt(b a:Nat):List Bool:=
 jB lh (jn b)++(gg (gQ (jn b)).2 (b-(gQ (jn b)).1)++(jB mw (h_ a)++gg (gF (h_ a)).2 (a-(gF (h_ a)).1)))
def wW(b d c:Nat)(h:b<256)(r:List Bool)(a:List Nat):iO iM d c (zL b++r) a=if (G a)+1<=c then .ok (CD,r,a++[b])else .error 6:=by simp[iO,iM,zL,xW b Y r,h]
def Ed(b a f e:Nat)(q:3<=b)(s:b<=258)(k:1<=a)(l:a<=32768)(r:List Bool)(c:List Nat)(m:a<=G c)(n:a<=f):iO iM f e (mt b a++r) c=if (G c)+b<=e then .ok (CD,r,kE a b c)else .error 6:=by
 obtain⟨g,h,i,d⟩:=s9 ⟨b-3,Y⟩;simp only[show b-3+3=b by omega]at g h i d;obtain⟨o,p,j⟩:=r_ a k l;unfold iO;have e1:kg iM.cs iM.ss (mt b a++r)=O (jn b,(gg (gQ (jn b)).2 (b-(gQ (jn b)).1)++(jB mw (h_ a)++(gg (gF (h_ a)).2 (a-(gF (h_ a)).1)++r)))):=by rw[show mt b a++r=jB lh (jn b)++(gg (gQ (jn b)).2 (b-(gQ (jn b)).1)++(jB mw (h_ a)++(gg (gF (h_ a)).2 (a-(gF (h_ a)).1)++r)))by simp[mt]];rw[zt,zu];exact xW (jn b) Y _
 rw[e1];simp only[];rw[aj Y,aj Y,aj Y,Ax _ _ _ d];simp only[];rw[show kg iM.cd iM.sd (jB mw (h_ a)++(gg (gF (h_ a)).2 (a-(gF (h_ a)).1)++r))=O (h_ a,gg (gF (h_ a)).2 (a-(gF (h_ a)).1)++r)from by rw[A8,A9];exact ED (h_ a) Y _];simp only[];rw[aj Y,Ax _ _ _ j];simp only[];rw[show(gF (h_ a)).1+(a-(gF (h_ a)).1)=a by omega,show(gQ (jn b)).1+(b-(gQ (jn b)).1)=b by omega,ak ⟨m,n⟩]
def zh(b:List Nat)(d:Nat):∀(e a:Nat),1<=d->d<=a->a+e<=G b->(∀c,c<e->b.getD (a+c) 0=b.getD (a-d+c) 0)->kE d e (b.take a)=b.take (a+e)
 |0,a,_,_,_,_=>rfl
 |e+1,a,i,k,l,f=>by
  have h:b.take a++[(b.take a).getD ((b.take a).length-d) 0]=b.take (a+1):=by
   have j:(b.take a).length=a:=by rw[ax];omega
   have g:=f 0 Y;simp only[eD]at g;rw[j,bN Y];congr 2;have:b.getD a 0=b[a]:=by rw[aL,af Y];rfl
   rw[<-this,g];simp only[aL,fg];rw[ak Y]
  rw[kE,h,zh b d e (a+1) i Y Y (λc m=>by have:=f (c+1) Y;rw[show a+1+c=a+(c+1)by omega,show a+1-d+c=a-d+(c+1)by omega];exact this),show a+1+e=a+(e+1)by omega]
def Cg(b:List Nat)(k a:Nat)(d:List Bool):Prop:=
 0<a/\k+a<=G b/\∀r c,iO iM 32768 c (d++r) (b.take k)=if k+a<=c then .ok (CD,r,b.take (k+a))else .error 6
def kI(e:List Nat)(k:Nat)(b:List Bool):Prop:=
 ∀a:Nat->List Bool->Prop,a 0 []->(∀k c b d,a k b->Cg e k c d->a (k+c) (b++d))->a k b
def kI.nil{a:List Nat}:kI a 0 []:=λ_ h _=>h
def kI.step{b:List Nat}{k a:Nat}{c d:List Bool}(h:kI b k c)(l:0<a)(j:k+a<=G b)
  (m:∀r f,iO iM 32768 f (d++r) (b.take k)=if k+a<=f then .ok (CD,r,b.take (k+a))else .error 6):kI b (k+a) (c++d):=
 λg i e=>e k a c d (h g i e) ⟨l,j,m⟩
def kI.ind{c:List Nat}{k:Nat}{a:List Bool}(h:kI c k a)(b:Nat->List Bool->Prop)(i:b 0 [])(j:∀k e a f,kI c k a->b k a->Cg c k e f->b (k+e) (a++f)):b k a:=
 (h (λk a=>kI c k a/\b k a) ⟨kI.nil,i⟩ (λk e a f g d=>⟨g.1.step d.1 d.2.1 d.2.2,j k e a f g.1 g.2 d⟩)).2
def kI.lit{a:List Nat}{k:Nat}{b:List Bool}(h:kI a k b)(f:k<G a)(c:∀d∈a,d<256):kI a (k+1) (b++zL (a.getD k 0)):=by
 refine h.step Y Y λr g=>?_;have e:a.getD k 0=a[k]:=by rw[aL,af Y];rfl
 rw[wW _ _ _ (by rw[e];exact c _ (cI _)),ax,dQ Y,bN Y,e]
def kI.copy{c:List Nat}{k:Nat}{e:List Bool}(h:kI c k e)(a b:Nat)(j:3<=a)(m:a<=258)(f:1<=b)(g:b<=32768)(l:b<=k)(i:k+a<=G c)
  (n:∀d,d<a->c.getD (k+d) 0=c.getD (k-b+d) 0):kI c (k+a) (e++mt a b):=by
 refine h.step Y i λr o=>?_;rw[Ed a b _ _ j m f g _ _ mH g,ax,dQ Y,zh c b a k f l i n]
section
section
def iA(d:nK)(f e:Nat)(r:List Bool)(a:List Nat)(c:Except Nat (List Bool×List Nat)):Prop:=
 ∀b:List Bool->List Nat->Except Nat (List Bool×List Nat)->Prop,
  (∀r a g,iO d f e r a=.error g->b r a (.error g)) ->(∀r a r' out',iO d f e r a=.ok (CS,r',out')->b r a (.ok (r',out'))) ->(∀r a r' out' c,iO d f e r a=.ok (CD,r',out')->b r' out' c->b r a c)->b r a c
section
variable{c:nK}{a b:Nat}{r r':List Bool}{d out':List Nat}{f:Except Nat (List Bool×List Nat)}
def iA.err{e:Nat}(h:iO c a b r d=.error e):iA c a b r d (.error e):=λ_ g _ _=>g _ _ _ h
def iA.stop(h:iO c a b r d=.ok (CS,r',out')):iA c a b r d (.ok (r',out')):=λ_ _ e _=>e _ _ _ _ h
def iA.more(h:iO c a b r d=.ok (CD,r',out'))(k:iA c a b r' out' f):iA c a b r d f:=λg i j e=>e _ _ _ _ _ h (k g i j e)
def iA.parted(h:iA c a b r d f):(∃g,iO c a b r d=.error g/\f=.error g)\/(∃r' out',iO c a b r d=.ok (CS,r',out')/\f=.ok (r',out'))\/(∃r' out',iO c a b r d=.ok (CD,r',out')/\iA c a b r' out' f):=
 (h (λr d f=>iA c a b r d f/\((∃g,iO c a b r d=.error g/\f=.error g)\/(∃r' out',iO c a b r d=.ok (CS,r',out')/\f=.ok (r',out'))\/(∃r' out',iO c a b r d=.ok (CD,r',out')/\iA c a b r' out' f)))
  (λ_ _ g e=>⟨.err e,C1 ⟨g,e,rfl⟩⟩) (λ_ _ r' out' e=>⟨.stop e,C2 (C1 ⟨r',out',e,rfl⟩)⟩) (λ_ _ r' out' _ e i=>⟨.more e i.1,C2 (C2 ⟨r',out',e,i.1⟩)⟩)).2
end
def Es(c g:List Nat)(k len code first place:Nat)(r:List Bool)(f:Nat)(d:List Bool)
  (h:kP c g k len code first place r=O (f,d)):G d<G r:=by
 induction k generalizing len code first place r with
 |zero=>simp[kP]at h
 |succ k e=>
  cases r with
  |nil=>simp[kP]at h
  |cons b r=>
   simp only[kP]at h;by_cases a:2*code+b.toNat<2*first+c.getD len 0
   ·rw[ak a]at h;simp at h;rw[<-h.2];simp
   ·rw[aj a]at h;have:=e _ _ _ _ _ h;simp;omega
def qd{b d:List Nat}{r a:List Bool}{c:Nat}(h:kg b d r=O (c,a)):G a<G r:=Es _ _ _ _ _ _ _ _ _ _ h
def Au{b c:Nat}{r a:List Bool}(h:mg b r=O (c,a)):G a<=G r:=by unfold mg at h;split at h<;>simp at h;rw[<-h.2];simp
def mp{a:nK}{y q:Nat}{r n:List Bool}{s t:List Nat}{b:Bool}(h:iO a y q r s=.ok (b,n,t)):G n<G r:=by
 unfold iO at h;cases d:kg a.cs a.ss r with
 |none=>rw[d]at h;cases h
 |some x=>
  obtain⟨c,u⟩:=x;have m:=qd d;rw[d]at h;simp only[]at h;by_cases i:c<256;·rw[ak i]at h;split at h<;>cases h;exact m
  rw[aj i]at h;by_cases j:c=256;·rw[ak j]at h;cases h;exact m
  rw[aj j]at h;by_cases k:285<c;·rw[ak k]at h;cases h
  rw[aj k]at h;cases e:mg (gQ c).2 u with
  |none=>rw[e]at h;cases h
  |some x=>
   obtain⟨x,v⟩:=x;have A:=Au e;rw[e]at h;simp only[]at h;cases f:kg a.cd a.sd v with
   |none=>rw[f]at h;cases h
   |some p=>
    obtain⟨o,w⟩:=p;have B:=qd f;rw[f]at h;simp only[]at h;by_cases l:29<o;·rw[ak l]at h;cases h
    rw[aj l]at h;cases g:mg (gF o).2 w with
    |none=>rw[g]at h;cases h
    |some z=>
     obtain⟨p,D⟩:=z;have C:=Au g;rw[g]at h;simp only[]at h;split at h;·split at h<;>cases h;omega
     ·cases h
def Ef(c b:Nat)(r:List Bool)(a:List Nat):iO iM c b (jB lh 256++r) a=.ok (CS,r,a):=by unfold iO;rw[zt,zu,xW 256 Y];simp
def kI.run{d:List Nat}{k a:Nat}{b r:List Bool}{e}(h:kI d k b)(f:k<=a)(c:iA iM 32768 a r (d.take k) e):iA iM 32768 a (b++r) [] e:=by
 refine h.ind (λk b=>∀r,k<=a->iA iM 32768 a r (d.take k) e->iA iM 32768 a (b++r) [] e) ?_ ?_ r f c
 ·intro r _ c;simpa using c
 ·intro k j b l _ i g r f c;rw[au];refine i _ Y (.more (r':=r) (out':=d.take (k+j)) ?_ c);rw[g.2.2,ak f]
def kI.cap{e:List Nat}{k b:Nat}{a:List Bool}(h:kI e k a)(c:b<k)(r:List Bool):iA iM 32768 b (a++r) [] (.error 6):=by
 refine h.ind (λk a=>b<k->∀r,iA iM 32768 b (a++r) [] (.error 6)) ?_ ?_ c r
 ·intro c;omega
 ·intro k n a p h g f c r;rw[au];by_cases d:b<k;·exact g d _
  ·refine h.run Y (.err ?_);rw[f.2.2,aj Y]
def kI.whole{a:List Nat}{c:Nat}{b:List Bool}(h:kI a (G a) b)(d:G a<=c)(r:List Bool):iA iM 32768 c (b++(jB lh 256++r)) [] (.ok (r,a)):=by refine h.run d (.stop ?_);rw[Ef,dE]
end
end
section
variable{w:vz}
structure Wq(B p T:Nat)(l:List wg)(w:vz)(r:wg)(m:List Nat)(f:Nat):Prop where
 hb:B<=p
 hT:T ≠ 5
 blk:w.heap[p]?=O (BV (r::I U f::l).toArray T (0,0))
 own:w.ownsRow B 5 1 r (G m) (m.map λx:Nat=>I .u8 (x:Int))
structure Wr(B p T:Nat)(l:List wg)(w:vz)(s:List Bool)(r:wg)(m:List Nat)(f:Nat):Prop where
 q:Wq B p T l w r m f
 bits:nJ m f s
variable{B p T:Nat}{l:List wg}{r:wg}{m:List Nat}{f:Nat}{s:List Bool}
def Wq.c0(h:Wq B p T l w r m f):w.cell? ⟨p,0,N⟩=O r:=by rw[cb h.blk];simp
def Wq.c1(h:Wq B p T l w r m f):w.cell? ⟨p,1,N⟩=O (I U f):=by rw[cb h.blk];simp
def Wq.fz(h:Wq B p T l w r m f)(a:Nat):w.frozen? ⟨p,a,N⟩=CS:=pA h.blk
def Wq.drew(h:Wq B p T l w r m f):Wq B p T l w.drew r m f:=⟨h.hb,h.hT,h.blk,h.own⟩
def Wr.drew(h:Wr B p T l w s r m f):Wr B p T l w.drew s r m f:=⟨h.q.drew,h.bits⟩
def Wq.sz(h:Wq B p T l w r m f):B<w.heap.size:=by have:=h.hb;have:=ap h.blk;omega
def Wq.set1(h:Wq B p T l w r m f)(a:Nat):Wq B p T l (w.setCell ⟨p,1,N⟩ (I U a)) r m a:=by
 refine⟨h.hb,h.hT,?_,?_⟩;·rw[nu _ h.blk];simp
 ·exact bJ h.own (xM h.own h.blk h.hT) _
def yJ{w:vz}{B e a k:Nat}{b:wg}{n:List wg}(h:w.ownsRow B e k b a n)(t:0<a):∃g c,b=Z (O ⟨g,0,N⟩) a c/\B<=g:=by
 rcases h.2 with⟨_,q⟩|⟨g,d,o,j,i,_⟩;·omega
 ·exact⟨g,d,j,i⟩
def Hq(h:nJ m f s):G m=(G s+7)/8:=by obtain⟨b,c,_,a⟩:=h;have:=cX List.length a;rw[gW,ab,bj]at this;omega
def Wq.put{g d:Nat}{pre:List Nat}{b:Nat}(h:Wq B p T l w (Z (O ⟨g,0,N⟩) (pre++[b]).length d) (pre++[b]) f)(a n:Nat):Wq B p T l ((w.setCell ⟨g,G pre,N⟩ (I .u8 a)).setCell ⟨p,1,N⟩ (I U n)).drew (Z (O ⟨g,0,N⟩) (pre++[a]).length d) (pre++[a]) n/\Kept 5 B [p] w ((w.setCell ⟨g,G pre,N⟩ (I .u8 a)).setCell ⟨p,1,N⟩ (I U n)).drew:=by
 have u:p≠g:=λe=>xM h.own h.blk h.hT (by rw[e];rfl);obtain⟨x,o,q,v⟩:=oQ h.own g rfl;refine⟨Wq.drew ⟨h.hb,h.hT,?_,?_⟩,Kept.drew ?_⟩
 ·have t:(w.setCell ⟨g,G pre,N⟩ (I .u8 a)).heap[p]?=O (BV (Z (O ⟨g,0,N⟩) (pre++[b]).length d::I U f::l).toArray T (0,0)):=by rw[lK _ u];exact h.blk
  rw[nu _ t];simp
 ·have i:=h.own.stored (G pre) (I .u8 a);have e1:(((pre++[b]).map λa:Nat=>I .u8 (a:Int)).set (G pre) (I .u8 a))=((pre++[a]).map λa:Nat=>I .u8 (a:Int)):=by simp
  rw[e1]at i;have e2:(pre++[b]).length=(pre++[a]).length:=cO;rw[e2]at i;exact bJ i.1 tc _
 ·refine Kept.setCell ?_ cO _;refine⟨rfl,rfl,rfl,by simp[World.setCell],λk z y j c=>?_⟩;rw[lK _ (λe=>?_)];·exact j
  ·subst e;rw[v]at j;rcases c with c|c;·omega
   ·exact c o q (d9 j).s
def Wq.app{a:vz}{c:wg}{xs:List Nat}(h:Wq B p T l w r m f)
  (g:a.ownsRow B 5 1 c (G m+G xs) ((m.map λd:Nat=>I .u8 (d:Int))++(xs.map λd:Nat=>I .u8 (d:Int)))) (e:w.grownBy a r.ownBlock):Wq B p T l (a.setCell ⟨p,0,N⟩ c) c (m++xs) f/\Kept 5 B [p] w (a.setCell ⟨p,0,N⟩ c)/\a.cell? ⟨p,0,N⟩=O r/\a.frozen? ⟨p,0,N⟩=CS:=by
 have b:a.heap[p]?=O (BV (r::I U f::l).toArray T (0,0)):=by rw[e.block p (ap h.blk) (λi=>xM h.own h.blk h.hT i.s)];exact h.blk
 refine⟨⟨h.hb,h.hT,?_,?_⟩,((Kept.refl 5 B [p] w).grown e (oQ h.own)).setCell cO _,by rw[cb b];simp,pA b⟩;·rw[nu _ b];simp
 ·rw[ab,aI];exact bJ g (xM g b h.hT) _
def Wq.alloc(h:Wq B p T l w r m f)(a:Obj):Wq B p T l (w.alloc a) r m f:=⟨h.hb,h.hT,nt _ h.blk,h.own.alloc _⟩
def Wr.alloc(h:Wr B p T l w s r m f)(a:Obj):Wr B p T l (w.alloc a) s r m f:=⟨h.q.alloc a,h.bits⟩
def MT(c a:Nat)(b:Bool)(e:c<256)(i:a<8):bits .or .u8 (c:Int) (wrap64 ((b.toNat:Int)*2^a)%256)=((c ||| (b.toNat <<< a):Nat):Int):=by
 have g:2^a<=2^7:=aY Y Y;have h:b.toNat*2^a<=1*2^a:=dx _ (by cases b<;>decide);have d:((b.toNat:Int)*2^a)=((b.toNat*2^a:Nat):Int):=by rw[Int.natCast_mul,Int.natCast_pow];rfl
 rw[d,Uo _ Y,show(((b.toNat*2^a:Nat):Int)%256)=((b.toNat*2^a:Nat):Int)by omega,u8_or_nat c _ e Y,Nat.shiftLeft_eq]
def T5{d i:Nat}{pre:List Nat}{a:Nat}(h:Wq B p T l w (Z (O ⟨d,0,N⟩) (pre++[a]).length i) (pre++[a]) f)(F:0<f)(v:f<8)(n:a<256)(D:G pre<=1099511627776)(b:Bool):wh DG 262 #[A3 (O ⟨p,0,N⟩),I U (b.toNat:Nat)] w λc g=>c=BX (BG #[])/\∃x,Wq B p T l g x (pre++[a ||| b.toNat <<< f]) ((f+1)%8)/\Kept 5 B [p] w g:=by
 have j:=h.c0;have y:=h.c1;have z:=h.fz 1;have k:=h.own.cellAt (G pre) cO;have C:=h.own.frozenAt (G pre);have q:(pre++[a]).length=G pre+1:=cO;rw[q]at j;have e1:((f:Int)==0)=CS:=eS;have A:w.cell? ⟨d,G pre,N⟩=O (I .u8 a):=by rw[k];simp
 have t:p≠d:=λc=>xM h.own h.blk h.hT (by rw[c];rfl);have E:d≠p:=λc=>t c.s;have e:=H (h.put (a ||| b.toNat <<< f) ((f+1)%8));have u:=H (MT a f b n v)
 go_in
 go_wp2_with fail;go_region;all_goals go_wp2
 all_goals (go_end0;rw[u.o,show((f:Int)+1)%8=(((f+1)%8:Nat):Int)by omega];exact⟨rfl,_,e.1,e.2⟩)
def TZ(h:Wq B p T l w r m 0)(al:G m<=1099511627776)(b:Bool):wh DG 262 #[A3 (O ⟨p,0,N⟩),I U (b.toNat:Nat)] w λc t=>c=BX (BG #[])/\∃K,Wq B p T l t K (m++[b.toNat]) 1/\Kept 5 B [p] w t:=by
 obtain⟨F,y,C,D,E⟩:=bR infoByte;have u:=h.c0;have v:=h.c1;have hs:=h.sz
 go_in
 go_wp2_with (at_builtin;refine aX _ rfl (.tmp 13) (.tmp 14) 23 rfl B 5 F (I .u8 0) 1 1 az y C D E rfl bF r (G m) _ rfl (h.alloc _).own ⟨w.heap.size,0,N⟩ 1 1 [I .u8 0] rfl cO ?hnews ?hone ?h63 ?hby ?hbs ?_)
 case hnews=>
  intro q L e;have hj:q<1:=by have:=(ay.1 e).1;simpa using this
  obtain rfl:q=0:=Y;show(w.alloc _).cell? ⟨w.heap.size,0+0,N⟩=_;rw[World.cell?_alloc_new];simpa using e
 case hone=>intro L e;simp at e;subst e;rfl
 case h63=>unfold maxLen;omega
 case hby=>omega
 case hbs=>simp;omega
 intro v' M A d _;obtain⟨a,k,R,S⟩:=(h.alloc _).app (xs:=[0]) A ⟨d.os,d.tape,d.output,d.size,d.block⟩;have J:=H (((Kept.refl 5 B [p] w).alloc _).t k);have j:(m++[0]).length=G m+1:=cO;obtain⟨g,Q,n,W⟩:=yJ a.own cO;rw[j]at n;subst n;go_wp2_with fail;generalize X:M.setCell ⟨p,0,N⟩ _=P at *;have u:=a.c0;have v:=a.c1;have V:=a.fz 1;rw[<-j]at a;have x:=a.own.cellAt (G m) cO;have ad:=a.own.frozenAt (G m);have ac:P.cell? ⟨g,G m,N⟩=O (I .u8 0):=by rw[x];simp
 have z:p≠g:=λc=>xM a.own a.blk a.hT (by rw[c];rfl);have ao:g≠p:=λc=>z c.s;have i:=H (a.put b.toNat 1);have ho:=H (MT 0 0 b Y Y);have aa:b.toNat<=1:=by cases b<;>decide
 go_region;all_goals go_wp2
 all_goals go_end0
 have e0:bits .or .u8 0 (b.toNat:Int)=(b.toNat:Nat):=by cases b<;>decide
 rw[e0];exact⟨rfl,_,i.1,J.t i.2⟩
def Wx(B p T:Nat)(l:List wg)(w:vz)(s:List Bool):Prop:=∃r m f,Wr B p T l w s r m f
def Wx.drew(h:Wx B p T l w s):Wx B p T l w.drew s:=by obtain⟨a,b,c,d⟩:=h;exact⟨a,b,c,d.drew⟩
def Wx.alloc(h:Wx B p T l w s)(d:Obj):Wx B p T l (w.alloc d) s:=by obtain⟨a,b,c,e⟩:=h;exact⟨a,b,c,e.alloc d⟩
def Ob(h:Wx B p T l w s)(x:G s<=1099511627776)(b:Bool):wh DG 262 #[A3 (O ⟨p,0,N⟩),I U (b.toNat:Nat)] w λc d=>c=BX (BG #[])/\Wx B p T l d (s++[b])/\Kept 5 B [p] w d:=by
 obtain⟨r,m,f,g,a⟩:=h;have t:=Hq a;by_cases o:f=0
 ·subst o;apply(TZ g Y b).m;rintro c d ⟨rfl,j,n,k⟩;exact⟨rfl,⟨j,_,_,n,a.bit0 b⟩,k⟩
 ·have e:0<G m:=by have:=a.2.1;omega
  obtain⟨pre,i,rfl⟩:∃pre i,m=pre++[i]:=⟨m.dropLast,m.getLast (by intro c;rw[c]at e;simp at e),(List.dropLast_concat_getLast _).s⟩;obtain⟨v,u,rfl,_⟩:=yJ g.own e;have q:=a.2.2.1 i cO;refine(T5 g Y a.1 q (by simp at t;omega) b).m ?_;rintro c d ⟨rfl,j,n,k⟩;exact⟨rfl,⟨j,_,_,n,a.bit Y b⟩,k⟩
end
def sG(b:List Nat):Nat->Nat->Nat
 |0,a=>a
 |c+1,a=>if a<G b/\wB (nth b a)=CD then sG b c (a+1)else a
def iU(d:List Nat)(p:Nat):Nat:=sG d (G d-p) p
def Nr(c:List Nat):∀b a,a<=sG c b a
 |0,a=>ag _
 |b+1,a=>by
  unfold sG;split;·have:=Nr c b (a+1);omega
  ·exact ag _
def Kc(b:List Nat)(a:Nat):a<=iU b a:=Nr b _ a
def Kf{d:List Nat}{p:Nat}(h:p<G d)(c:wB (nth d p)=CD):iU d p=iU d (p+1):=by
 unfold iU;obtain⟨a,b⟩:∃a,G d-p=a+1:=⟨G d-p-1,Y⟩;rw[b,show (G d)-(p+1)=a by omega];conv=>lhs;unfold sG
 rw[ak ⟨h,c⟩]
def GS{d:List Nat}{p:Nat}(h:¬(p<G d/\wB (nth d p)=CD)):iU d p=p:=by
 unfold iU;cases (G d)-p with
 |zero=>rfl
 |succ a=>unfold sG;rw[aj h]
def bl(S:ByteArray):List Nat:=S.data.toList.map UInt8.toNat
def mC(S:ByteArray):(bl S).length=S.size:=by rw[bl,aq,dH];rfl
def rT(a:ByteArray)(b:Nat)(h:b<a.size):(a[b]'h).toNat=nth (bl a) b:=by have c:b<a.data.size:=h;simp only[bl,nth,aL,aE];rw[af (by simpa using c)];simp;rfl
def lJ(a:ByteArray)(b:Nat)(h:b<a.size):nth (bl a) b<256:=by rw[<-rT a b h];exact UInt8.toNat_lt _
def T9(a:Nat)(c:vz):wh DG 250 #[I .u8 a] c λb d=>b=BX (Bs (wB a))/\d=c:=by
 have b:((a:Int)==0||(a:Int)==9||(a:Int)==10||(a:Int)==12||(a:Int)==13||(a:Int)==32)=wB a:=by rw[cH];simp[wB];omega
 have:=iw a c;rw[b]at this;exact this
def yG{b a:Nat}(h:iG b=O a):a<16:=by
 unfold iG at h;split at h;·cases h;omega
 split at h;·cases h;omega
 split at h;·cases h;omega
 ·cases h
def Cl(a:ByteArray)(k:Nat):bl (a.extract k a.size)=(bl a).drop k:=by unfold bl;rw[ByteArray.data_extract,Array.toList_extract,List.extract_eq_take_drop,List.map_take,List.map_drop];rw[aP (by rw[aU,aq,dH];exact ag _)]
def bp(b:ByteArray)(k a:Nat)(h:k+a<=b.size):bl (b.extract k (k+a))=((bl b).drop k).take a:=by unfold bl;rw[ByteArray.data_extract,Array.toList_extract,List.extract_eq_take_drop,List.map_take,List.map_drop];rw[show k+a-k=a by omega]
def MR{g:vz}{a c e f k:Nat}{b:wg}{i:List wg}(h:g.ownsRow a c f b e i)(j:k<a):O k≠b.ownBlock:=λd=>absurd (h.lt k d.s).1 Y
def qi.below{w:vz}{B:Nat}{ao:Option wT}{e:List Nat}{g:vz}(h:qi w B ao e)(b:wm w.heap.size w g):qi g B ao e:=by intro d hi;obtain⟨c,f,i,j,a⟩:=h d hi;exact⟨c,f,i,j,(b.cell (p:=⟨c,f+d,N⟩) (aA w _ a)).t a⟩
def qi.other{w f:vz}{a:Nat}{c:Option wT}{e:List Nat}(h:qi w a c e)(j:∀k,k<a->f.heap[k]?=w.heap[k]?):qi f a c e:=by intro m l;obtain⟨b,n,g,d,i⟩:=h m l;exact⟨b,n,g,d,by rw[World.cell?_of_block (w:=w) (j b d)];exact i⟩
def wK{B:Nat}{d:TypeId}{k:Nat}{i:wg}{f:Nat}{l:List wg}{c j:vz}(h:c.ownsRow B d k i f l)(b:wm c.heap.size c j):j.ownsRow B d k i f l:=by
 obtain⟨o,a⟩:=h;refine⟨o,?_⟩;rcases a with a|⟨g,m,n,e1,e2,e,p⟩;·exact C1 a
 ·exact C2 ⟨g,m,n,e1,e2,by rw[b.block _ (ap e)];exact e,p⟩
section
variable{B:Nat}{w:vz}
def gj(l:List Nat):ByteArray:=⟨(l.map UInt8.ofNat).toArray⟩
def LE:∀(a:List Nat) (r:ByteArray),(a.map (λd:Nat=>(d:Int))).foldl (λr c=>r.push (UInt8.ofNat c.toNat)) r=⟨r.data++(a.map UInt8.ofNat).toArray⟩
 | [],r=>cO
 |b::a,r=>by simp only[bM,fj];rw[LE a];simp[ByteArray.push]
def IQ(d:wT)(e:Nat)(a:List Nat)(i:∀c,c<G a->w.cell? (d.add c)=O (I .u8 (nth a c:Nat))):(convert 23 9 (Z (O d) (G a) e)).run DG w=.ok (y7 (gj a)) w:=by
 rw[fJ w 23 9 5 (O d) (G a) e az eU dC];have h:=run_loadCells_list (P:= DG) w d ((a.map (λb:Nat=>(b:Int))).map (I .u8)) (λc k f=>by
  have g:c<G a:=by have:=(ay.1 f).1;simpa using this
  rw[i c g];simp[af g]at f;rw[<-f];simp[nth,af g])
 simp only[aq]at h;rw[run_bytesToString w d (G a) e _ h,LE];have j:ByteArray.empty.data=#[]:=rfl;rw[j];simp[gj]
def AU{g:wg}{l:List Nat}(h:w.ownsRow B 5 1 g (G l) (l.map λm:Nat=>I .u8 (m:Int))):(convert 23 9 g).run DG w=.ok (y7 (gj l)) w:=by
 rcases d_ (G l) with e|e
 ·obtain⟨i,b,rfl⟩:=ke h;have k:=cD.1 e;subst k;cases i with
  |none=>show(convert 23 9 (Z N 0 b)).run DG w=_;rw[fJ w 23 9 5 N 0 b az eU dC];rfl
  |some a=>exact IQ a b [] (λd c=>by cases c)
 ·obtain⟨j,b,rfl,_⟩:=yJ h e;refine IQ ⟨j,0,N⟩ b l (λd c=>?_);have f:=h.cellAt d Y;rw[aE,af c]at f;simp only[bK]at f;rw[sK];rw[show nth l d=l[d]by simp[nth,af c]];simpa using f
def yN(a:ByteArray):gj (bl a)=a:=by
 unfold gj bl;rw[dy];have:(UInt8.ofNat ∘ UInt8.toNat)=id:=by funext b;simp
 rw[this,List.map_id,Array.toArray_toList]
end
end Go.Proofs.YtgkljcmjnphpeaaGreatDoor
namespace Go
section
section
variable{P:Program}{a:Array Oper}{Q:Exit->xq->vz->Prop}{b:Region.Mode}{S:Array Bool->vz->Prop}
end
end
end Go
namespace Go.Proofs.YtgkljcmjnphpeaaGreatDoor
open Go.RowKit
def IL(a:List Nat):(gj a).size=G a:=by unfold gj;simp[ByteArray.size]
def p_(a:Nat):Bool:=a==40||a==41||a==60||a==62||a==91||a==93||a==123||a==125||a==47||a==37
def pB(a:Nat):Bool:= !wB a && !p_ a
def jX:Bool->List Nat->List Nat
 |_,[]=>[]
 |false,b::r=>if wB b then jX CS r else if b=37 then jX CD r else b::r
 |true,b::r=>if b=10\/b=13 then jX CS r else jX CD r
def gq(r:List Nat):List Nat:=jX CS r
def gh(s r:List Nat):Option (List Nat):=if s.isPrefixOf r then O (r.drop (G s))else N
def gI(r:List Nat):List Nat:=(gq r).takeWhile pB
def gE(r:List Nat):List Nat:=(gq r).dropWhile pB
def gx(s r:List Nat):Option (List Nat):=if gI r=s then O (gE r)else N
def iq(r:List Nat):Option (List Nat):=(gh [13,10] r).or ((gh [10] r).or (gh [13] r))
def uE:∀(b:Bool) (r:List Nat),(jX b r).length<=G r
 |b,[]=>by cases b<;>simp[jX]
 |false,d::r=>by
  simp only[jX];have a:=uE CS r;have c:=uE CD r;split;·simp only[ai];omega
  ·split;·simp only[ai];omega
   ·exact ag _
 |true,d::r=>by simp only[jX];have a:=uE CS r;have c:=uE CD r;split<;>simp only[ai]<;>omega
def jM(r:List Nat):(gq r).length<=G r:=uE CS r
def pK{b:Nat}{r:List Nat}(a:wB b=CS)(c:b≠37):gq (b::r)=b::r:=by unfold gq;simp[jX,a,c]
def gZ{s r b:List Nat}(h:gh s r=O b):G b+G s=G r/\r.drop (G s)=b:=by
 unfold gh at h;by_cases a:s.isPrefixOf r=CD
 ·rw[ak a]at h;have:=(fY.1 a).length_le;cases h;exact⟨by rw[aU];omega,rfl⟩
 ·rw[aj a]at h;cases h
def Dl{p:Nat->Bool}(r:List Nat):(r.dropWhile p).length<=G r:=(List.dropWhile_suffix p).length_le
section
structure iJ(b:Nat)(w w':vz):Prop where
 os:w'.os=w.os
 tape:w'.tape=w.tape
 output:w'.output=w.output
 size:w.heap.size<=w'.heap.size
 block:∀k,k<w.heap.size->k≠b->w'.heap[k]?=w.heap[k]?
def iJ.refl(b:Nat)(w:vz):iJ b w w:=⟨rfl,rfl,rfl,ag _,λ_ _ _=>rfl⟩
def iJ.t{b:Nat}{d y e:vz}(h:iJ b d y)(k:iJ b y e):iJ b d e:=
 ⟨k.os.t h.os,k.tape.t h.tape,k.output.t h.output,aJ h.size k.size,λc hi a=>(k.block c (aF hi h.size) a).t (h.block c hi a)⟩
def iJ.of_below{b:Nat}{w a:vz}(h:wm w.heap.size w a):iJ b w a:=⟨h.os,h.tape,h.output,h.size,λc hi _=>h.block c hi⟩
def iJ.drewN{b:Nat}{a c:vz}(h:iJ b a c)(d:Nat):iJ b a (c.drewN d):=⟨h.os,h.tape,h.output,h.size,h.block⟩
def iJ.setCell{b:Nat}{w w':vz}(h:iJ b w w')(c:Nat)(v:wg):iJ b w (w'.setCell ⟨b,c,N⟩ v):=
 h.t ⟨rfl,rfl,rfl,by simp[World.setCell],λk _ a=>lK _ a⟩
structure Sc(B d:Nat)(c:Option wT)(cap:Nat)(data:List Nat)(f g j:wg)(w:vz)(r:List Nat):Prop where
 hb:B<=d
 blk:w.heap[d]?=O (BV #[Z c (G data) cap,I U (G data-G r:Nat),f,g,j] 131 (0,0))
 dat:qi w B c data
 byt:∀i,i<G data->nth data i<256
 len:G data<=200000
 lc:G data<=cap/\cap<=9223372036854775807
 le:G r<=G data
 suf:data.drop (G data-G r)=r
 ad:∃bd o,c=O ⟨bd,o,N⟩/\bd<B
variable{B d cap:Nat}{c:Option wT}{data:List Nat}{f g j:wg}{w w':vz}{r q:List Nat}
def tQ(a b:ByteArray):(a.toList==b.toList)=decide (a=b):=by rw[cH,beq_iff_eq,cL,dI,dI];exact⟨λh=>eC (Array.toList_inj.1 h),λh=>by rw[h]⟩
def Iw(a r:List Nat):a.isPrefixOf r=decide (G a<=G r/\r.take (G a)=a):=by
 rw[cH,fY,cL];constructor
 ·intro h;exact⟨h.length_le,(List.prefix_iff_eq_take.1 h).s⟩
 ·rintro⟨_,h⟩;exact List.prefix_iff_eq_take.2 h.s
def Nu{i b:List Nat}(m:∀a∈i,a<256)(n:∀a∈b,a<256)(h:gj i=gj b):i=b:=by
 have l:(i.map UInt8.ofNat)=(b.map UInt8.ofNat):=by unfold gj at h;simpa using h
 have k:∀e:List Nat,(∀a∈e,a<256)->(e.map UInt8.ofNat).map UInt8.toNat=e:=λe o=>by rw[dy];have:e.map (UInt8.toNat ∘ UInt8.ofNat)=e.map id:=List.map_congr_left (λa p=>by simp[dR (o a p)]);simpa using this
 rw[<-k i m,<-k b n,l]
def Lb(b:ByteArray):∀e∈bl b,e<256:=by intro e h;obtain⟨i,a,rfl⟩:=cF h;have:=lJ b i (by rw[<-mC];exact a);simpa[nth,a]using this
def takes_none{a r:List Nat}(h:a.isPrefixOf r=CS):gh a r=N:=by unfold gh;rw[h];rfl
def takes_some{a r:List Nat}(h:a.isPrefixOf r=CD):gh a r=O (r.drop (G a)):=by unfold gh;rw[h];rfl
end
section
variable{B k g:Nat}{i:Option wT}{f:List Nat}{l m n:wg}{w d:vz}{r q:List Nat}
def Pv(a:Option wT)(c:Nat)(b:vz):(convert 23 9 (Z a 0 c)).run DG b=.ok (y7 {data:=#[]}) b:=by
 cases a with
 |none=>rw[fJ b 23 9 5 N 0 c az eU dC];rfl
 |some a=>exact IQ a c [] (λh e=>by cases e)
def im(a:Int)(w:vz):wh DG 319 #[I .u8 a] w λb d=>b=BX (Bs (a==40||a==41||a==60||a==62||a==91||a==93||a==123||a==125||a==47||a==37))/\d=w:=by
 go_in
 go_wp2;all_goals (go_ret;exact⟨by simp[*],rfl⟩)
def Rf(a:Nat)(w:vz):wh DG 319 #[I .u8 a] w λb d=>b=BX (Bs (p_ a))/\d=w:=by
 have b:((a:Int)==40||(a:Int)==41||(a:Int)==60||(a:Int)==62||(a:Int)==91||(a:Int)==93||(a:Int)==123||(a:Int)==125||(a:Int)==47||(a:Int)==37)=p_ a:=by rw[cH];simp[p_];omega
 have:=im a w;rw[b]at this;exact this
def R_(a:Nat)(w:vz):wh DG 291 #[I .u8 a] w λb d=>b=BX (Bs (pB a))/\d=w:=by
 have e:=H (T9 a);have c:=H (Rf a);unfold pB;cases j:wB a<;>cases h:p_ a<;>rw[j]at e<;>rw[h]at c;all_goals (
  go_in
  go_wp2_with (first|(go_at_call 250;apply(e _).m;rintro b d ⟨rfl,rfl⟩)|(go_at_call 319;apply(c _).m;rintro b d ⟨rfl,rfl⟩));go_ret;exact⟨rfl,rfl⟩)
def pH:List Nat->Bool
 | []=>CS
 |b::_=>pB b
def Ae:∀(b:Bool) (r:List Nat),jX b r <:+ r
 |b,[]=>by cases b<;>exact fS _
 |false,a::r=>by
  simp only[jX];split;·exact(Ae CS r).t (fR a r)
  ·split;·exact(Ae CD r).t (fR a r)
   ·exact fS _
 |true,a::r=>by
  simp only[jX];split;·exact(Ae CS r).t (fR a r)
  ·exact(Ae CD r).t (fR a r)
def Kg(r:List Nat):gq r <:+ r:=Ae CS r
def Hd(r:List Nat):gE r <:+ r:=(List.dropWhile_suffix pB).t (Kg r)
def TR{r:List Nat}{a:Nat}(h:a∈gI r):a∈r:=by unfold gI at h;exact(Kg r).subset ((fP pB).subset h)
end
section
def ir:Nat->Nat->List Nat->Option (List Nat×List Nat)
 |0,_,[]=>O ([],[])
 |_+1,_,[]=>N
 |0,_,b::r=>if pB b=CS then O ([],b::r)else if b<33\/126<b then N else if b=35 then ir 1 0 r else(ir 0 0 r).map λc=>(b::c.1,c.2)
 |1,_,b::r=>match iG b with
  |none=>N
  |some a=>ir 2 a r
 |_+2,a,b::r=>match iG b with
  |none=>N
  |some d=>if 16*a+d=0 then N else(ir 0 0 r).map λc=>((16*a+d)::c.1,c.2)
def ld(r:List Nat):Option (List Nat×List Nat):=ir 0 0 r
variable{B p m:Nat}{y:Option wT}{f:List Nat}{A C D:wg}{w i:vz}{r q:List Nat}
def wZ(_:vz)(a:List Nat)(b:wg):Prop:=b=y7 (gj a)
structure Bu(s:vz)(B p:Nat)(y:Option wT)(m:Nat)(f:List Nat)(A C D:wg)(w:vz)(q:List Nat)(z:wg)(d:List Nat):Prop where
 sc:Sc B p y m f A C D w q
 own:w.ownsRow s.heap.size 5 1 z (G d) (d.map λx:Nat=>I .u8 (x:Int))
 only:iJ p s w
 lt:p<s.heap.size
 few:G d+G q<=200000
variable{s:vz}{z:wg}{d:List Nat}
def Bw{b l n e a:Nat}{o:wg}{t:List wg}(h:w.ownsRow a e n o l t)(k:iJ b w i)(F:b<a):i.ownsRow a e n o l t:=by
 obtain⟨x,c⟩:=h;refine⟨x,?_⟩;rcases c with c|⟨g,u,v,e1,e2,j,E⟩;·exact C1 c
 ·exact C2 ⟨g,u,v,e1,e2,by rw[k.block g (ap j) Y];exact j,E⟩
def Bu.one_news(g:Nat)(c:vz):∀b e,([g].map λh:Nat=>I .u8 (h:Int))[b]?=O e->(c.alloc (BV #[I .u8 (g:Nat)] 5)).cell? ((⟨c.heap.size,0,N⟩:wT).add b)=O e:=by
 intro b e a;rw[sK];match b,a with
 |0,a=>exact(cb (bn c _)).t a
 |b+1,a=>simp at a
def iN(a:Nat):Bool:=pB a&&(decide (33<=a)&&decide (a<=126))
def Mh(a:Nat)(w:vz):wh DG 239 #[I .u8 a] w λc i=>c=BX (Bs (iN a))/\i=w:=by
 have b:=H (R_ a);have e:=H (Kt (a:Int) 33 126);have e1:(decide ((33:Int)<=(a:Int))&&decide ((a:Int)<=126))=(decide (33<=a)&&decide (a<=126)):=by rw[cH];simp;omega
 rw[e1]at e;unfold iN;cases g:pB a
 ·rw[g]at b
  go_in
  go_wp2_with (go_at_call 291;apply(b _).m;rintro c i ⟨rfl,rfl⟩);go_ret;exact⟨rfl,rfl⟩
 ·rw[g]at b;generalize (decide (33<=a)&&decide (a<=126))=h at *
  go_in
  go_wp2_with (first|(go_at_call 291;apply(b _).m;rintro c i ⟨rfl,rfl⟩)|(go_at_call 216;apply(e _).m;rintro c i ⟨rfl,rfl⟩));go_ret;exact⟨cO,rfl⟩
def nameS_end{q:List Nat}(h:pH q=CS):ir 0 0 q=O ([],q):=by
 cases q with
 |nil=>rfl
 |cons b c=>have a:pB b=CS:=h;simp[ir,a]
def m_(d:List Nat)(b:Option (List Nat×List Nat)):Option (List Nat×List Nat):=b.map λa=>(d++a.1,a.2)
def FZ(d:List Nat)(c:Nat)(a:Option (List Nat×List Nat)):m_ d (a.map λb=>(c::b.1,b.2))=m_ (d++[c]) a:=by
 cases a with
 |none=>rfl
 |some b=>simp[m_]
end
section
structure f_(α:Type) where
 kind:Nat
 n:Int
 places:Nat
 text:List Nat
 items:List α
 keys:List (List Nat)
 filters:List Nat
def VT:Nat->Type
 |0=>Empty
 |k+1=>f_ (VT k)
def ik(α:Type)(a:Nat)(b:Int)(c:Nat)(d:List Nat):f_ α:=⟨a,b,c,d,[],[],[]⟩
def nV{α:Type}(V:f_ α)(b c a:wg):wg:=Bc #[I U (V.kind:Int),I U V.n,I U (V.places:Int),y7 (gj V.text),b,c,a]
def cellsOf(a:wg):List wg:=a.cells.toList
def j4(P:Nat->Prop)(w:vz)(c:TypeId)(e:Nat)(b:wg)(d:Nat)(f:List wg):Prop:=w.ownsRow 0 c e b d f/\∀a,b.ownBlock=O a->P a/\a<w.heap.size
def iR(P:Nat->Prop):(k:Nat)->vz->wg->VT k->Prop
 |0,_,_,_=>False
 |k+1,w,v,V=>∃(c d b:wg) (a:List wg),v=nV (show f_ (VT k)from V) c d b/\G a=(show f_ (VT k)from V).items.length /\
   j4 P w 67 7 c (G a) (a.flatMap cellsOf)/\(∀(i:Nat) (e:wg) (f:VT k),a[i]?=O e->(show f_ (VT k)from V).items[i]?=O f->iR P k w e f) /\
   j4 P w 9 1 d (show f_ (VT k)from V).keys.length ((show f_ (VT k)from V).keys.map λs=>y7 (gj s)) /\
   j4 P w 3 1 b (show f_ (VT k)from V).filters.length ((show f_ (VT k)from V).filters.map λg:Nat=>I U g)
variable{P Q:Nat->Prop}{w w':vz}
def Bq{w:vz}{b c d f e:Nat}{g:wg}{i:List wg}(h:w.ownsRow b d f g e i)(o:c<=b):w.ownsRow c d f g e i:=by
 obtain⟨m,a⟩:=h;refine⟨m,?_⟩;rcases a with a|⟨l,j,k,e1,e2,n⟩;·exact C1 a
 ·exact C2 ⟨l,j,k,e1,Y,n⟩
def j4.nil(P:Nat->Prop)(w:vz)(a size:Nat):j4 P w a size (Z N 0 0) 0 []:=⟨bI _ _ _ _,λg h=>by cases h⟩
def j4.of{b d g f:Nat}{c:wg}{i:List wg}(h:w.ownsRow b d g c f i)(j:∀a,c.ownBlock=O a->P a):j4 P w d g c f i:=
 ⟨Bq h (aw _),λa e=>⟨j a e,(h.lt a e).2⟩⟩
def j4.m{e c n:Nat}{v:wg}{xs:List wg}(h:j4 P w e c v n xs)(d:∀a,P a->a<w.heap.size->Q a):j4 Q w e c v n xs:=
 ⟨h.1,λa b=>⟨d a (h.2 a b).1 (h.2 a b).2,(h.2 a b).2⟩⟩
def j4.keep{d l n:Nat}{v:wg}{m:List wg}(h:j4 P w d l v n m)(r:∀a,P a->a<w.heap.size->w'.heap[a]?=w.heap[a]?):j4 P w' d l v n m:=by
 obtain⟨⟨g,b⟩,e⟩:=h;rcases b with b|⟨a,o,f,e1,e2,q,p⟩;·exact⟨⟨g,C1 b⟩,λa i=>by rw[b.1]at i;cases i⟩
 ·have c:v.ownBlock=O a:=by rw[e1];rfl
  have j:w'.heap[a]?=O (BV f d (0,0)):=by rw[r a (e a c).1 (e a c).2];exact q
  exact⟨⟨g,C2 ⟨a,o,f,e1,e2,j,p⟩⟩,λs k=>by rw[c]at k;cases k;exact⟨(e a c).1,ap j⟩⟩
def iR.keep:∀(k:Nat) {v:wg} {V:VT k},iR P k w v V->(∀a,P a->a<w.heap.size->w'.heap[a]?=w.heap[a]?)->iR P k w' v V
 |0,_,_,h,_=>h
 |k+1,v,V,h,b=>by obtain⟨o,p,c,q,d,e,f,g,i,j⟩:=h;exact⟨o,p,c,q,d,e,f.keep b,λn r y l m=>iR.keep k (g n r y l m) b,i.keep b,j.keep b⟩
def iR.m:∀(k:Nat) {v:wg} {V:VT k},iR P k w v V->(∀b,P b->b<w.heap.size->Q b)->iR Q k w v V
 |0,_,_,h,_=>h
 |k+1,v,V,h,a=>by obtain⟨o,p,c,q,d,e,f,g,i,j⟩:=h;exact⟨o,p,c,q,d,e,f.m a,λn r y l m=>iR.m k (g n r y l m) a,i.m a,j.m a⟩
def iR.leaf(k:Nat)(a:Nat)(b:Int)(c:Nat)(d:List Nat):iR P (k+1) w (Bc #[I U a,I U b,I U c,y7 (gj d),Z N 0 0,Z N 0 0,Z N 0 0]) (ik (VT k) a b c d):=
 ⟨Z N 0 0,Z N 0 0,Z N 0 0,[],rfl,rfl,j4.nil _ _ _ _,λf g h e _=>by simp at e,j4.nil _ _ _ _,j4.nil _ _ _ _⟩
def iR.cells{k:Nat}{v:wg}{V:VT k}(h:iR P k w v V):(cellsOf v).length=7/\∀b∈cellsOf v,b.oneCell'=CD:=by
 cases k with
 |zero=>cases h
 |succ k=>obtain⟨j,l,i,vs,rfl,_,hi,_,d,c⟩:=h;obtain⟨a1,e,rfl⟩:=ke hi.1;obtain⟨a2,f,rfl⟩:=ke d.1;obtain⟨a3,g,rfl⟩:=ke c.1;refine⟨rfl,λb a=>?_⟩;simp[cellsOf,nV,Value.cells]at a;rcases a with rfl|rfl|rfl|rfl|rfl|rfl|rfl<;>rfl
end
def iV:(Tryz.prog.info? 67).map (λa=>(a.zero,a.size,a.bytes))=O (O (Bc #[I U 0,I U 0,I U 0,y7 {data:=#[]},Z N 0 0,Z N 0 0,Z N 0 0]),7,112):=by kernel_rfl
def iS:(Tryz.prog.info? 9).map (λa=>(a.zero,a.size,a.bytes))=O (O (y7 {data:=#[]}),1,16):=by kernel_rfl
def iZ:Array wg:=#[I U 0,I U 0,I U 0,y7 {data:=#[]},Z N 0 0,Z N 0 0,Z N 0 0]
def Gz{i:vz}{b j d e r s p q:Nat}{f g:wg}{t u:List wg}(h:i.ownsRow b d r f p t)(k:i.ownsRow j e s g q u)(o:d≠e)(a:Nat)(m:f.ownBlock=O a)(n:g.ownBlock=O a):False:=by obtain⟨_,v,x,l⟩:=oQ h a m;obtain⟨_,w,y,c⟩:=oQ k a n;rw[l]at c;simp at c;exact o c.2.1
def uG{j:vz}{b:Nat}(h:j.heap[b]?=O (BV iZ 67 (0,0)))(a c d e f g i:wg):(((((((j.setCell ⟨b,0,N⟩ a).setCell ⟨b,1,N⟩ c).setCell ⟨b,2,N⟩ d).setCell ⟨b,3,N⟩ e).setCell ⟨b,4,N⟩ f).setCell ⟨b,5,N⟩ g).setCell ⟨b,6,N⟩ i).heap[b]?=O (BV #[a,c,d,e,f,g,i] 67 (0,0)):=by
 rw[nu _ (nu _ (nu _ (nu _ (nu _ (nu _ (nu _ h))))))];rfl
def qu(a:vz)(b:Nat)(c d e f g h i:wg):iJ b a (((((((a.setCell ⟨b,0,N⟩ c).setCell ⟨b,1,N⟩ d).setCell ⟨b,2,N⟩ e).setCell ⟨b,3,N⟩ f).setCell ⟨b,4,N⟩ g).setCell ⟨b,5,N⟩ h).setCell ⟨b,6,N⟩ i):=
 ((((((((iJ.refl b a).setCell 0 c).setCell 1 d).setCell 2 e).setCell 3 f).setCell 4 g).setCell 5 h).setCell 6 i)
def iR.form{b:Nat->Prop}{k:Nat}{w:vz}{a:wg}{d:VT k}(h:iR b k w a d):∃(r t u:Int) (c:ByteArray) (m:Option wT) (o n:Nat) (p:Option wT) (s q:Nat) (e:Option wT) (g f:Nat),a=Bc #[I U r,I U t,I U u,y7 c,Z m o n,Z p s q,Z e g f]:=by
 cases k with
 |zero=>cases h
 |succ k=>obtain⟨D,E,C,F,rfl,_,j,_,l,i⟩:=h;obtain⟨v,z,rfl⟩:=ke j.1;obtain⟨x,A,rfl⟩:=ke l.1;obtain⟨y,B,rfl⟩:=ke i.1;exact⟨_,_,_,_,_,_,_,_,_,_,_,_,_,rfl⟩
def rp{r:vz}{b s f n:Nat}{o:wg}{e:List wg}(h:r.ownsRow b s f o n (e.flatMap cellsOf))(l:∀a∈e,(cellsOf a).length=f)(J:0<f){c:Nat}{a:wg}(i:e[c]?=O a):∃k j,o=Z (O ⟨k,0,N⟩) n j/\n<=j/\j<=maxLen/\o.ownBlock=O k/\∀d g,(cellsOf a)[d]?=O g->r.cell? ⟨k,c*f+d,N⟩=O g:=by
 have C:∀(e:List wg) (c:Nat),(∀a∈e,(cellsOf a).length=f)->∀a,e[c]?=O a->∀d g,(cellsOf a)[d]?=O g->(e.flatMap cellsOf)[c*f+d]?=O g:=by
  intro e;induction e with
  |nil=>intro c _ a i;simp at i
  |cons D e B=>
   intro c l a i d g m;rw[cG];have q:=l D cO;have x:=(ay.1 m).1;cases c with
   |zero=>simp at i;subst i;rw[Nat.zero_mul,bZ,aR x];exact m
   |succ c=>rw[aW (by rw[q,Nat.add_mul];omega),q];rw[show(c+1)*f+d-f=c*f+d by rw[Nat.add_mul];omega];exact B c (λE A=>l E (by simp[A])) a (by simpa using i) d g m
 have p:=C e c l a i;rcases h.2 with⟨rfl,rfl⟩|⟨k,j,F,rfl,_,w,u,v,_,z⟩
 ·have t:=dh (by rw[h.1];omega);have K:=l a (aQ i);have:=p 0 _ (af Y);rw[t]at this;simp at this
 ·refine⟨k,j,rfl,u,v,rfl,λd g m=>?_⟩;have:=p d g m;rw[<-z]at this;rw[cb w,<-dG];have y:=(ay.1 this).1;rw[dq (by rw[ax]at y;omega)]at this;exact this
def En{i:vz}{b l f:Nat}{g:wg}{k:List wg}(h:i.ownsRow b l 1 g f k){e:Nat}{j:wg}(a:k[e]?=O j):∃c d,g=Z (O ⟨c,0,N⟩) f d/\i.cell? ⟨c,e,N⟩=O j:=by
 have s:=(ay.1 a).1;rcases h.2 with⟨rfl,rfl⟩|⟨c,d,p,rfl,_,m,q,r,_,o⟩;·have:=h.1;omega
 ·refine⟨c,d,rfl,?_⟩;rw[cb m,<-dG];rw[<-o]at a;have n:=(ay.1 a).1;rw[dq (by rw[ax]at n;omega)]at a;exact a
def iR.parts{a:Nat->Prop}{k:Nat}{w:vz}{g:wg}{V:f_ (VT k)}(h:iR a (k+1) w g V):∃(e f c:wg) (b:List wg),g=nV V e f c/\G b=V.items.length /\
   j4 a w 67 7 e (G b) (b.flatMap cellsOf)/\(∀(d:Nat) (i:wg) (j:VT k),b[d]?=O i->V.items[d]?=O j->iR a k w i j) /\
   j4 a w 9 1 f V.keys.length (V.keys.map λm=>y7 (gj m)) /\
   j4 a w 3 1 c V.filters.length (V.filters.map λl:Nat=>I U l):=h
def oZ(h:Nat->Prop)(k:Nat)(b:Nat)(c:List (VT k))(e:vz)(i:wg):Prop:=
 ∃a:List wg,e.ownsRow b 67 7 i (G a) (a.flatMap cellsOf)/\G a=G c/\∀(d:Nat) (f:wg) (g:VT k),a[d]?=O f->c[d]?=O g->iR h k e f g
def kO:{k:Nat}->VT k->Nat
 |0,_=>0
 |_+1,V=>f_.kind V
def tK:{k:Nat}->VT k->Int
 |0,_=>0
 |_+1,a=>f_.n a
def tO:{k:Nat}->VT k->List Nat
 |0,_=>[]
 |_+1,a=>f_.text a
def iR.form2{c:Nat->Prop}{k:Nat}{s:vz}{b:wg}{a:VT k}(h:iR c k s b a):∃(r:Nat) (l:Option wT) (n m:Nat) (o:Option wT) (q p:Nat) (d:Option wT) (f e:Nat),b=Bc #[I U (kO a:Int),I U (tK a),I U r,y7 (gj (tO a)),Z l n m,Z o q p,Z d f e]:=by
 cases k with
 |zero=>cases h
 |succ k=>obtain⟨A,B,z,C,rfl,_,i,_,j,g⟩:=h;obtain⟨t,w,rfl⟩:=ke i.1;obtain⟨u,x,rfl⟩:=ke j.1;obtain⟨v,y,rfl⟩:=ke g.1;exact⟨_,_,_,_,_,_,_,_,_,_,rfl⟩
def oZ.len{P:Nat->Prop}{k b:Nat}{d:List (VT k)}{i:vz}{v:wg}(h:oZ P k b d i v):∃a c,v=Z a (G d) c:=by obtain⟨j,f,g,_⟩:=h;obtain⟨a,c,e⟩:=ke f;exact⟨a,c,by rw[e,g]⟩
def oZ.m{P c:Nat->Prop}{k b:Nat}{d:List (VT k)}{w:vz}{v:wg}(h:oZ P k b d w v)(i:∀a,P a->a<w.heap.size->c a):oZ c k b d w v:=by obtain⟨xs,e,f,g⟩:=h;exact⟨xs,e,f,λm n y j l=>iR.m k (g m n y j l) i⟩
def oZ.at{P:Nat->Prop}{k b:Nat}{a:List (VT k)}{w:vz}{v:wg}(h:oZ P k b a w v){i:Nat}{y:VT k}(f:a[i]?=O y):∃g c x,v=Z (O ⟨g,0,N⟩) (G a) c/\b<=g/\G a<=c/\iR P k w x y/\∀j n,(cellsOf x)[j]?=O n->w.cell? ⟨g,i*7+j,N⟩=O n:=by
 obtain⟨xs,l,o,m⟩:=h;have u:=(ay.1 f).1;obtain⟨x,d⟩:∃x,xs[i]?=O x:=⟨_,af Y⟩;obtain⟨g,c,e,t,_,p,q⟩:=rp l (λx d=>by obtain⟨j,r,s⟩:=cF d;obtain⟨y,f⟩:∃y,a[j]?=O y:=⟨_,af Y⟩;exact(m j x y (by rw[af r,s]) f).cells.1) bF d
 exact⟨g,c,x,by rw[e,o],(l.lt g p).1,Y,m i x y d f,q⟩
def ym{d e k i:Nat}{j:wg}{m:List wg}{c l:vz}(h:c.ownsRow d e k j i m)(b:wm c.heap.size c l):l.ownsRow d e k j i m:=by
 obtain⟨p,a⟩:=h;refine⟨p,?_⟩;rcases a with a|⟨f,n,o,e1,e2,g,q⟩;·exact C1 a
 ·exact C2 ⟨f,n,o,e1,e2,by rw[b.block f (ap g)];exact g,q⟩
def oZ.keep{P:Nat->Prop}{k b:Nat}{a:List (VT k)}{w w':vz}{v:wg}(h:oZ P k b a w v)(c:wm w.heap.size w w'):oZ P k b a w' v:=by obtain⟨o,e,f,g⟩:=h;exact⟨o,ym e c,f,λm n y j l=>iR.keep k (g m n y j l) (λd _ i=>c.block d i)⟩
section
def j8:List Nat->Option (List Nat×List Nat)
 | []=>N
 |b::r=>if wB b then j8 r else if b=62 then O ([],r)else match iG b with
  |none=>N
  |some c=>(j8 r).map λa=>(c::a.1,a.2)
def jL:List Nat->List Nat
 | []=>[]
 | [a]=>[16*a]
 |a::b::c=>(16*a+b)::jL c
def lF(r:List Nat):Option (List Nat×List Nat):=(j8 r).map λa=>(jL a.1,a.2)
variable{B g d:Nat}{f:Option wT}{c:List Nat}{m o p:wg}{w j:vz}{r q:List Nat}
variable{k:vz}{i:wg}{e:List Nat}
def pairs_pad(a:List Nat)(h:G a%2=1):jL (a++[0])=jL a:=by
 have u:∀(n:Nat) (a:List Nat),G a=2*n+1->jL (a++[0])=jL a:=by
  intro n;induction n with
  |zero=>
   intro a l;match a,l with
   | [s],_=>rfl
  |succ n t=>
   intro a l;match a,l with
   |s::b::a,l=>simp only[ai]at l;show jL (s::b::(a++[0]))=jL (s::b::a);simp only[jL];rw[t a Y]
 exact u (G a/2) a Y
end
section
variable{B e cap:Nat}{j:Option wT}{c:List Nat}{o p s:wg}{w m:vz}{r q:List Nat}
variable{g:vz}{d:wg}{f:List Nat}
def Digs(a:List Nat):Prop:=∀b∈a,b<16
def Digs.snoc{b:List Nat}{i:Nat}(h:Digs b)(l:i<16):Digs (b++[i]):=by
 intro k a;rcases aZ.1 a with a|a;·exact h k a
 ·rw[cZ]at a;omega
def Digs.nth{l:List Nat}(h:Digs l)(a:Nat)(b:a<G l):nth l a<16:=by
 have:Go.Proofs.YtgkljcmjnphpeaaGreatDoor.nth l a=l[a]:=by simp[Go.Proofs.YtgkljcmjnphpeaaGreatDoor.nth,b]
 rw[this];exact h _ (cI b)
structure Jn(g:vz)(e:Nat)(w1:vz)(D:List Nat)(dv:wg)(wr:vz)(k:Nat)(d:wg):Prop where
 own:wr.ownsRow w1.heap.size 5 1 d k (((jL D).take k).map λx:Nat=>I .u8 (x:Int))
 keep:wm w1.heap.size w1 wr
def M5:∀(i:Nat) (a:List Nat),G a=2*i->(jL a).length=i
 |0,a,h=>by obtain rfl:a=[]:=dh Y;rfl
 |i+1,a,h=>by
  match a,h with
  |l::b::k,h=>simp only[ai]at h;simp only[jL,ai];rw[M5 i k Y]
def M3:∀(k:Nat) (a:List Nat),2*k+1<G a->nth (jL a) k=16*nth a (2*k)+nth a (2*k+1)
 |0,a,h=>by
  match a,h with
  |l::b::i,h=>rfl
 |k+1,a,h=>by
  match a,h with
  |l::b::i,h=>simp only[ai]at h;have:=M3 k i Y;show nth ((16*l+b)::jL i) (k+1)=_;rw[show nth ((16*l+b)::jL i) (k+1)=nth (jL i) k from rfl,this];rfl
def Kl{l:List Nat}{k:Nat}(h:k<G l):l.take (k+1)=l.take k++[nth l k]:=by rw[cP,show nth l k=l[k]by simp[nth,h]];simp[h]
end
section
def oH:List Nat->Bool
 | []=>CS
 |b::_=>decide (48<=b)&&decide (b<=55)
def lA:Nat->Nat->List Nat->Nat×List Nat
 |0,a,r=>(a,r)
 |k+1,a,r=>if oH r then lA k (8*a+(r.headD 0-48)) r.tail else(a,r)
def pD(r:List Nat):Nat×List Nat:=lA 3 0 r
def lk(b:Nat):Option Nat:=if b=110 then O 10 else if b=114 then O 13 else if b=116 then O 9 else if b=98 then O 8 else if b=102 then O 12 else if b=40\/b=41\/b=92 then O b else N
def jk(r:List Nat):Option (List Nat×List Nat):=
 match iq r with
 |some c=>O ([],c)
 |none=>if oH r then(if(pD r).1<=255 then O ([(pD r).1],(pD r).2)else N)else match r with
  | []=>N
  |b::d=>match lk b with
   |none=>N
   |some a=>O ([a],d)
variable{B g d:Nat}{f:Option wT}{a:List Nat}{m o p:wg}{w j:vz}{r q:List Nat}
variable{l:vz}{i:wg}{e:List Nat}
def MI:∀(k b:Nat) (r:List Nat),(lA k b r).2 <:+ r
 |0,b,r=>fS _
 |k+1,b,r=>by
  simp only[lA];split;·exact(MI k _ r.tail).t (List.tail_suffix r)
  ·exact fS _
def Id{r q:List Nat}(h:iq r=O q):G q+1<=G r:=by
 unfold iq at h;cases e1:gh [13,10] r with
 |some b=>rw[e1]at h;cases h;have:=(gZ e1).1;simp only[ai,aB]at this;omega
 |none=>
  cases e2:gh [10] r with
  |some b=>rw[e1,e2]at h;cases h;have:=(gZ e2).1;simp only[ai,aB]at this;omega
  |none=>rw[e1,e2]at h;have:=(gZ (show gh [13] r=O q from h)).1;simp only[ai,aB]at this;omega
def RO{r:List Nat}(h:oH r=CD):(pD r).2.length+1<=G r:=by
 cases r with
 |nil=>cases h
 |cons b c=>unfold pD;rw[lA,ak h];have:=(MI 2 (8*0+((b::c).headD 0-48)) (b::c).tail).length_le;simp only[List.tail_cons,ai]at this ⊢;omega
end
section
def jN:Nat->Nat->List Nat->Option (List Nat×List Nat)
 |0,_,_=>N
 |d+1,c,r=>match iq r with
  |some f=>(jN d c f).map λa=>(10::a.1,a.2)
  |none=>match r with
   | []=>N
   |b::e=>if b=92 then(match jk e with
     |none=>N
     |some (g,f)=>(jN d c f).map λa=>(g++a.1,a.2))
    else if b=40 then(jN d (c+1) e).map λa=>(b::a.1,a.2)
    else if b=41 then(if c=1 then O ([],e)else(jN d (c-1) e).map λa=>(b::a.1,a.2))
    else(jN d c e).map λa=>(b::a.1,a.2)
def lq(r:List Nat):Option (List Nat×List Nat):=jN (G r+1) 1 r
def KM(c d:List Nat)(a:Option (List Nat×List Nat)):m_ c (a.map λb=>(d++b.1,b.2))=m_ (c++d) a:=by
 cases a with
 |none=>rfl
 |some b=>simp[m_]
def Hp{r f g:List Nat}(h:jk r=O (f,g)):G f+G g<=G r:=by
 unfold jk at h;cases a:iq r with
 |some k=>rw[a]at h;cases h;have:=Id a;simp only[aB];omega
 |none=>
  rw[a]at h;simp only[]at h;by_cases c:oH r=CD
  ·rw[ak c]at h;by_cases d:(pD r).1<=255;·rw[ak d]at h;cases h;have:=RO c;simp only[ai,aB];omega
   ·rw[aj d]at h;cases h
  ·rw[aj c]at h;cases r with
   |nil=>cases h
   |cons b j=>
    simp only[]at h;cases e:lk b with
    |none=>rw[e]at h;cases h
    |some i=>rw[e]at h;cases h;simp only[ai,aB];omega
variable{B i e:Nat}{g:Option wT}{d:List Nat}{n p s:wg}{w k:vz}{r q:List Nat}
variable{m:vz}{j:wg}{a:List Nat}
end
section
variable{w:vz}
def gA:List Nat->List Nat×List Nat
 | []=>([],[])
 |b::a=>if b=43\/b=45 then([b],a)else([],b::a)
def gX(b:Nat):Bool:=decide (48<=b)&&decide (b<=57)
def iC(a:List Nat):Nat:=a.foldl (λc b=>10*c+(b-48)) 0
def na(a:List Nat):Option Int:=
 if(gA a).2≠[]/\(gA a).2.all gX=CD then O (if(gA a).1=[45]then -(iC (gA a).2:Int)else(iC (gA a).2:Int))else N
end
section
def g_(r:List Nat):Option (List Nat):=(gx [48] r).bind λa=>gx [82] a
variable{B d b:Nat}{c:Option wT}{a:List Nat}{f g h:wg}{w e:vz}{r q:List Nat}
end
section
section
def iB(l:List Nat):List Nat:=(l.reverse.dropWhile λb=>b==48).reverse
def jZ(a:List Nat):Option Int:=if 1<=(gA a).2.length/\(gA a).2.length<=10 then na a else N
def kf(l:List Nat):Option (Int×Nat):=
 match(gA l).2.dropWhile λb=>b != 46 with
 | []=>N
 |_::b=>if 1<=max ((gA l).2.takeWhile λb=>b != 46).length (G b)/\max ((gA l).2.takeWhile λb=>b != 46).length (G b)<=9
  then(na ((gA l).1++48::(((gA l).2.takeWhile λb=>b != 46)++iB b))).map λa=>(a,(iB b).length)else N
def iX(a:Type)(r:List Nat):Option (f_ a×List Nat):=
 if gI r=[110,117,108,108]then O (ik a 0 0 0 [],gE r)
 else if gI r=[102,97,108,115,101]then O (ik a 1 0 0 [],gE r)
 else if gI r=[116,114,117,101]then O (ik a 1 1 0 [],gE r)
 else match jZ (gI r)with
  |some b=>match g_ (gE r)with
   |some d=>O (ik a 9 b 0 [],d)
   |none=>O (ik a 2 b 0 [],gE r)
  |none=>match kf (gI r)with
   |some (b,c)=>O (ik a 3 b c [],gE r)
   |none=>N
section
variable{α:Type}(f:List Nat->Option (α×List Nat))
def kS:Nat->List Nat->Option (List α×List Nat)
 |0,_=>N
 |b+1,r=>match gh [93] (gq r)with
  |some q=>O ([],q)
  |none=>match f (gq r)with
   |none=>N
   |some (c,q)=>(kS b q).map λa=>(c::a.1,a.2)
def jy:Nat->List Nat->Option ((List (List Nat)×List α)×List Nat)
 |0,_=>N
 |b+1,r=>match gh [62,62] (gq r)with
  |some q=>O (([],[]),q)
  |none=>match gh [47] (gq r)with
   |none=>N
   |some c=>match ld c with
    |none=>N
    |some (k,d)=>match f d with
     |none=>N
     |some (v,e)=>(jy b e).map λa=>((k::a.1.1,v::a.1.2),a.2)
end
def gC:(k:Nat)->List Nat->Option (VT k×List Nat)
 |0,_=>N
 |k+1,r=>match gh [91] (gq r)with
  |some b=>(kS (gC k) (G b+1) b).map λa=>((⟨6,0,0,[],a.1,[],[]⟩:f_ (VT k)),a.2)
  |none=>match gh [60,60] (gq r)with
   |some b=>(jy (gC k) (G b+1) b).map λa=>((⟨7,0,0,[],a.1.2,a.1.1,[]⟩:f_ (VT k)),a.2)
   |none=>match gh [60] (gq r)with
    |some b=>(lF b).map λa=>(ik (VT k) 5 0 0 a.1,a.2)
    |none=>match gh [40] (gq r)with
     |some b=>(lq b).map λa=>(ik (VT k) 5 0 0 a.1,a.2)
     |none=>match gh [47] (gq r)with
      |some b=>(ld b).map λa=>(ik (VT k) 4 0 0 a.1,a.2)
      |none=>iX (VT k) r
def n9{f i:Type}{d:Option (f×List Nat)}{g:f->i}{e:List Nat}{b:i}(h:(d.map λa=>(g a.1,a.2))=O (b,e)):∃c,d=O (c,e):=by
 cases d with
 |none=>cases h
 |some a=>obtain⟨c,j⟩:=a;simp at h;exact⟨c,by rw[h.2]⟩
def om{α g:Type}{d:Option (α×List Nat)}{f:α×List Nat->g×List Nat}{e:List Nat}{b:g}(h:d.map f=O (b,e))(i:∀a,(f a).2=a.2):∃c,d=O (c,e):=by
 cases d with
 |none=>cases h
 |some a=>obtain⟨c,j⟩:=a;have:=cX Prod.snd (d9 h);rw[i]at this;exact⟨c,by rw[show e=j from this.s]⟩
def kU:∀(r:List Nat) (d e:Nat) (c a:List Nat),ir d e r=O (c,a)->G a<=G r
 | [],d,e,c,a,h=>by
  match d,h with
  |0,h=>simp[ir]at h;simp[h.2]
  |i+1,h=>simp[ir]at h
 |b::r,d,e,c,a,h=>by
  match d,h with
  |0,h=>
   simp only[ir]at h;split at h;·simp at h;rw[<-h.2];exact ag _
   ·split at h;·cases h
    ·split at h;·have:=kU r 1 0 c a h;simp only[ai];omega
     ·obtain⟨g,f⟩:=n9 h;have:=kU r 0 0 g a f;simp only[ai];omega
  |1,h=>
   simp only[ir]at h;split at h;·cases h
   ·have:=kU r 2 _ c a h;simp only[ai];omega
  |i+2,h=>
   simp only[ir]at h;split at h;·cases h
   ·split at h;·cases h
    ·obtain⟨g,f⟩:=n9 h;have:=kU r 0 0 g a f;simp only[ai];omega
def oI:∀(r c a:List Nat),j8 r=O (c,a)->G a<=G r
 | [],c,a,h=>by cases h
 |b::r,c,a,h=>by
  simp only[j8]at h;split at h;·have:=oI r c a h;simp only[ai];omega
  ·split at h;·simp at h;rw[<-h.2];simp
   ·split at h;·cases h
    ·obtain⟨e,d⟩:=n9 h;have:=oI r e a d;simp only[ai];omega
def mP:∀(e f:Nat) (r l d:List Nat),jN e f r=O (l,d)->G d<=G r
 |0,f,r,l,d,h=>by simp[jN]at h
 |e+1,f,r,l,d,h=>by
  rw[jN.eq_def]at h;simp only[]at h;cases k:iq r with
  |some m=>rw[k]at h;obtain⟨c,a⟩:=n9 h;have:=mP e f m c d a;have:=Id k;omega
  |none=>
   rw[k]at h;cases r with
   |nil=>cases h
   |cons b i=>
    simp only[]at h;split at h
    ·cases j:jk i with
     |none=>rw[j]at h;cases h
     |some o=>obtain⟨n,m⟩:=o;rw[j]at h;obtain⟨c,a⟩:=n9 (g:=λp=>n++p) h;have:=mP e f m c d a;have:=Hp j;simp only[ai];omega
    ·split at h
     ·obtain⟨c,a⟩:=n9 h;have:=mP e _ i c d a;simp only[ai];omega
     ·split at h
      ·split at h;·simp at h;rw[<-h.2];simp
       ·obtain⟨c,a⟩:=n9 h;have:=mP e _ i c d a;simp only[ai];omega
      ·obtain⟨c,a⟩:=n9 h;have:=mP e _ i c d a;simp only[ai];omega
def jf{a r q:List Nat}(h:gx a r=O q):G q<=G r:=by
 unfold gx at h;split at h;·cases h;exact(Hd r).length_le
 ·cases h
def EG{r b:List Nat}(h:g_ r=O b):G b<=G r:=by
 unfold g_ at h;cases a:gx [48] r with
 |none=>rw[a]at h;cases h
 |some c=>rw[a]at h;have:=jf a;have:=jf (show gx [82] c=O b from h);omega
def E6{r:List Nat}(h:gI r≠[]):(gE r).length+1<=G r:=by have a:gI r++gE r=gq r:=List.takeWhile_append_dropWhile;have b:=cX List.length a;rw[ab]at b;have c:=jM r;have:=fI.2 h;omega
def sE{α:Type}{r f:List Nat}{g:f_ α}(h:iX α r=O (g,f)):G f+1<=G r:=by
 by_cases d:gI r=[]
 ·unfold iX at h;rw[d]at h;simp[jZ,kf,gA]at h
 ·have a:=E6 d;unfold iX at h;split at h;·simp at h;rw[<-h.2];exact a
  ·split at h;·simp at h;rw[<-h.2];exact a
   ·split at h;·simp at h;rw[<-h.2];exact a
    ·cases e:jZ (gI r)with
     |some i=>
      rw[e]at h;simp only[]at h;cases b:g_ (gE r)with
      |some l=>rw[b]at h;simp at h;have:=EG b;rw[<-h.2];omega
      |none=>rw[b]at h;simp at h;rw[<-h.2];exact a
     |none=>
      rw[e]at h;simp only[]at h;cases c:kf (gI r)with
      |some j=>obtain⟨i,k⟩:=j;rw[c]at h;simp at h;rw[<-h.2];exact a
      |none=>rw[c]at h;cases h
def y_{k:Type}{b:List Nat->Option (k×List Nat)}(g:∀r j a,b r=O (j,a)->G a<=G r):∀(f:Nat) (r a:List Nat) (e:List k),kS b f r=O (e,a)->G a<=G r
 |0,r,a,e,h=>by cases h
 |f+1,r,a,e,h=>by
  simp only[kS]at h;have o:=jM r;cases c:gh [93] (gq r)with
  |some i=>rw[c]at h;simp at h;have:=(gZ c).1;rw[<-h.2];omega
  |none=>
   rw[c]at h;simp only[]at h;cases d:b (gq r)with
   |none=>rw[d]at h;cases h
   |some n=>obtain⟨j,i⟩:=n;rw[d]at h;simp only[]at h;obtain⟨m,l⟩:=om h (λ_=>rfl);have:=y_ g f i a m l;have:=g _ _ _ d;omega
def sP{n:Type}{b:List Nat->Option (n×List Nat)}(l:∀r v a,b r=O (v,a)->G a<=G r):∀(i:Nat) (r a:List Nat) (g:List (List Nat)×List n),jy b i r=O (g,a)->G a<=G r
 |0,r,a,g,h=>by cases h
 |i+1,r,a,g,h=>by
  simp only[jy]at h;have u:=jM r;cases e:gh [62,62] (gq r)with
  |some j=>rw[e]at h;simp at h;have:=(gZ e).1;rw[<-h.2];omega
  |none=>
   rw[e]at h;simp only[]at h;cases c:gh [47] (gq r)with
   |none=>rw[c]at h;cases h
   |some j=>
    rw[c]at h;simp only[]at h;have w:=(gZ c).1;cases d:ld j with
    |none=>rw[d]at h;cases h
    |some s=>
     obtain⟨k,m⟩:=s;rw[d]at h;simp only[]at h;have x:=kU j 0 0 k m d;cases f:b m with
     |none=>rw[f]at h;cases h
     |some t=>obtain⟨v,q⟩:=t;rw[f]at h;simp only[]at h;obtain⟨p,o⟩:=om h (λ_=>rfl);have:=sP l i q a p o;have:=l _ _ _ f;omega
def jY:∀{k:Nat} {r a:List Nat} {e:VT k},gC k r=O (e,a)->G a+1<=G r
 |0,r,a,e,h=>by cases h
 |k+1,r,a,e,h=>by
  have m:∀r v a,gC k r=O (v,a)->G a<=G r:=λr v a h=>by have:=jY h;omega
  simp only[gC]at h;have p:=jM r;cases f:gh [91] (gq r)with
  |some c=>rw[f]at h;simp only[]at h;obtain⟨d,b⟩:=om h (λ_=>rfl);have:=y_ m _ c a d b;have:=(gZ f).1;simp only[ai,aB]at this;omega
  |none=>
   rw[f]at h;simp only[]at h;cases g:gh [60,60] (gq r)with
   |some c=>rw[g]at h;simp only[]at h;obtain⟨d,b⟩:=om h (λ_=>rfl);have:=sP m _ c a d b;have:=(gZ g).1;simp only[ai,aB]at this;omega
   |none=>
    rw[g]at h;simp only[]at h;cases i:gh [60] (gq r)with
    |some c=>rw[i]at h;simp only[]at h;obtain⟨d,b⟩:=om h (λ_=>rfl);obtain⟨o,n⟩:=om b (λ_=>rfl);have:=oI c o a n;have:=(gZ i).1;simp only[ai,aB]at this;omega
    |none=>
     rw[i]at h;simp only[]at h;cases j:gh [40] (gq r)with
     |some c=>rw[j]at h;simp only[]at h;obtain⟨d,b⟩:=om h (λ_=>rfl);have:=mP _ _ c d a b;have:=(gZ j).1;simp only[ai,aB]at this;omega
     |none=>
      rw[j]at h;simp only[]at h;cases l:gh [47] (gq r)with
      |some c=>rw[l]at h;simp only[]at h;obtain⟨d,b⟩:=om h (λ_=>rfl);have:=kU c 0 0 d a b;have:=(gZ l).1;simp only[ai,aB]at this;omega
      |none=>rw[l]at h;exact sE (α:=VT k) h
def tf:∀(b:Bool) (r:List Nat),(∀a c,jX b r=a::c->wB a=CS/\a≠37)
 |b,[],a,c,h=>by cases b<;>cases h
 |false,e::r,a,c,h=>by
  simp only[jX]at h;by_cases d:wB e=CD;·rw[ak d]at h;exact tf CS r a c h
  ·rw[aj d]at h;by_cases f:e=37;·rw[ak f]at h;exact tf CD r a c h
   ·rw[aj f]at h;cases h;exact⟨by simpa using d,f⟩
 |true,e::r,a,c,h=>by
  simp only[jX]at h;by_cases d:e=10\/e=13;·rw[ak d]at h;exact tf CS r a c h
  ·rw[aj d]at h;exact tf CD r a c h
def kV(r:List Nat):gq (gq r)=gq r:=by
 cases h:gq r with
 |nil=>rfl
 |cons d c=>obtain⟨a,b⟩:=tf CS r d c h;exact pK a b
def AD(r:List Nat):gI (gq r)=gI r:=by unfold gI;rw[kV]
def AE(r:List Nat):gE (gq r)=gE r:=by unfold gE;rw[kV]
def Fh(a:Type)(r:List Nat):iX a (gq r)=iX a r:=by unfold iX;rw[AD,AE]
end
end
end Go.Proofs.YtgkljcmjnphpeaaGreatDoor
namespace Go
section
section
variable{P:Program}{w:vz}
def GQ(s:Nat)(h n e:TypeId)(c:TypeInfo)(r:wg)(g t:Nat)(y:P.underlying h=O (.slice e))(u:P.info? e=O c)(M:c.zero=O r)
  (L:c.size=g) (F:c.bytes=t) (T:r.cells.size=g) (S:0<g)
  (o:wg) (b:Nat) (A:List wg) (m:w.ownsRow s e g o b A)
  (i:wT) (a k:Nat) (d:List wg) (l:G d=a*g) (v:∀V z,d[V]?=O z->w.cell? (i.add V)=O z) (D:∀z∈d,z.oneCell'=CD)
  (E:b+a<=maxLen) (J:(b+a)*t<=140737488355328) (aa:s<=w.heap.size):∃p q,(Builtin.append_ #[h,h] n #[o,Z (O i) a k]).run P w=.ok p q/\q.ownsRow s e g p (b+a) (A++d)/\w.grownBy q o.ownBlock /\
   (∀j,p.ownBlock=O j->o.ownBlock=O j\/w.heap.size<=j):=by
 obtain⟨p,q,x,W,X,_⟩:=run_append_own (P:=P) w s h n e c r g t y u M L F T S o b A m i a k d l v D E J aa;refine⟨p,q,x,W,X,?_⟩;have a1:b+a<=9223372036854775807:=by simp only[maxLen]at E;omega
 intro j K;rcases m.2 with⟨rfl,rfl⟩|⟨C,B,Q,rfl,_,al,_,_,ac,_⟩
 ·have a0:=dh (by rw[m.1];omega);subst a0;obtain⟨v2,w2,f,k2,_⟩:=run_append_own (P:=P) w w.heap.size h n e c r g t y u M L F T S (Z N 0 0) 0 [] (bI _ _ _ _) i a k d l v D E J (ag _);rw[x]at f;injection f with e1 e2;subst e1;exact C2 (k2.lt j K).1
 ·subst L;by_cases R:b+a<=B
  ·have ad:b*c.size+G d<=Q.size:=by rw[l,ac,<-Nat.add_mul];exact dx _ R
   have f:=run_append_room (P:=P) w h n e c y u C b B Q al i a k d l v D R ad;rw[x]at f;injection f with e1 e2;subst e1;exact C1 K
  ·subst F;have ao:=m.cells (g:=C) rfl;have f:=run_append_grow (P:=P) w h n e c r y u M ⟨C,0,N⟩ b B A m.1 ao i a k d l v Y Y (fD Y J);rw[x]at f;injection f with e1 e2;subst e1;simp[Value.ownBlock]at K;exact C2 Y
def Tc{y:Array Oper}{a:Oper}{c:xq}{u:xq->vz->Prop}{C:Exit->xq->vz->Prop}{B:Prop}(R:a.guard=N)(z A:Operand)(n:TypeId)
  (W:a.op=.call { callee:=.builtin .append,args:=#[z,A],argTypes:=#[n,n]})
  (m:Nat) (e:TypeId) (f:TypeInfo) (t:wg) (b q:Nat) (ht:P.underlying n=O (.slice e)) (S:P.info? e=O f) (hz:f.zero=O t)
  (aa:f.size=b) (M:f.bytes=q) (al:t.cells.size=b) (ac:0<b)
  (j:wg) (g:Nat) (s:List wg) (hs:c.eval z=j) (X:w.ownsRow m e b j g s)
  (p:wT) (d v:Nat) (i:List wg) (hx:c.eval A=Z (O p) d v) (T:G i=d*b) (V:∀x o,i[x]?=O o->w.cell? (p.add x)=O o) (D:∀o∈i,o.oneCell'=CD)
  (K:g+d<=maxLen) (Q:(g+d)*q<=140737488355328) (L:m<=w.heap.size)
  (h:∀k l,l.ownsRow m e b k (g+d) (s++i)->w.grownBy l j.ownBlock->(∀r,k.ownBlock=O r->j.ownBlock=O r\/w.heap.size<=r)->u (c.put a.dst k) l):if Region.wanted a (yielded y c.tmps)=CD then Oper.wp P a c w u C else B:=by
 have hw:Region.wanted a (yielded y c.tmps)=CD:=by simp[Region.wanted,R]
 rw[ak hw];obtain⟨k,l,hr,E,F,J⟩:=GQ (P:=P) (w:=w) m n a.type e f t b q ht S hz aa M al ac j g s X p d v i T V D K Q L;unfold Oper.wp execOp;simp only[W,resolve,invoke,builtin,Sem.run_bind,Sem.run_pure,fM,fQ,bM,ew,hs,hx,hr];exact h k l E F J
end
end
end Go
namespace Go.Proofs.YtgkljcmjnphpeaaGreatDoor
open Go.RowKit
section
variable{B a:Nat}{w c:vz}
def uH(d b:Nat):Nat:=10*d+(b-48)
def Small(b:List Nat):Prop:=(gA b).2.length<=19/\((gA b).2.all gX=CD->iC (gA b).2<9223372036854775808)
def Mw:∀(d:List Nat) (e:Nat),(∀g∈d,g<256)->d.all gX=CD->d.foldl uH e+1<=(e+1)*10^(G d)
 | [],e,_,_=>cO
 |b::d,e,h,f=>by
  simp only[dD,a_]at f;have l:48<=b/\b<=57:=by simpa[gX]using f.1
  have:=Mw d (uH e b) (λg i=>h g (by simp[i])) f.2;rw[fj,ai,c_];have k:(uH e b+1)*10^(G d)<=(e+1)*10*10^(G d):=dx _ (by unfold uH;omega);have j:(e+1)*(10^(G d)*10)=(e+1)*10*10^(G d):=by rw[dK (10^(G d)) 10,dS]
  omega
def WI(d:List Nat)(e:Int)(b:Bool):Prop:=match jZ d with
 |some f=>e=f/\b=CD
 |none=>b=CS
end
section
variable{j:vz}{B e c K k:Nat}{d:Option wT}{b:List Nat}{l m n:wg}{w i:vz}{q r:List Nat}{f g:wg}{h:List wg}{Vs:List (VT k)}{a:List (List Nat)}
def yA{o:Type}(Vs:List o)(s:Option (List o×List Nat)):Option (List o×List Nat):=s.map λp=>(Vs++p.1,p.2)
def Ot{s:Type}(Vs:List s)(t:s)(o:Option (List s×List Nat)):yA Vs (o.map λp=>(t::p.1,p.2))=yA (Vs++[t]) o:=by
 cases o with
 |none=>rfl
 |some p=>simp[yA]
def xn{p:Type}(a:List (List Nat))(Vs:List p)(s:Option ((List (List Nat)×List p)×List Nat)):Option ((List (List Nat)×List p)×List Nat):=s.map λo=>((a++o.1.1,Vs++o.1.2),o.2)
def Ol{s:Type}(a:List (List Nat))(Vs:List s)(u:List Nat)(t:s)(p:Option ((List (List Nat)×List s)×List Nat)):xn a Vs (p.map λo=>((u::o.1.1,t::o.1.2),o.2))=xn (a++[u]) (Vs++[t]) p:=by
 cases p with
 |none=>rfl
 |some o=>simp[xn]
end
section
variable{B a:Nat}{w c:vz}
def Td(b:ByteArray):b.size=(bl b).length:=(mC b).s
def vJ(b:List Nat)(h:∀d∈b,d<256):bl (gj b)=b:=by unfold bl gj;simp only[dy];have:b.map (UInt8.toNat ∘ UInt8.ofNat)=b.map id:=List.map_congr_left (λd e=>by simp[dR (h d e)]);simpa using this
def Pi(d e:List Nat):gA ((gA d).1++48::e)=((gA d).1,48::e):=by
 cases d with
 |nil=>simp[gA]
 |cons b r=>
  simp only[gA];by_cases h:b=43\/b=45;·rw[ak h];simp[h]
  ·rw[aj h];simp
end
section
variable{B g e k:Nat}{f:Option wT}{d:List Nat}{l m n:wg}{w j i:vz}{q r:List Nat}
def xV(a:ByteArray)(c:List UInt8):(a.toList==c)=decide (bl a=c.map UInt8.toNat):=by
 rw[cH,beq_iff_eq,cL,dI];unfold bl;constructor;·intro h;rw[h]
 ·intro h;exact(List.map_inj_right (λo b=>UInt8.toNat_inj.1)).1 h
end
def kC{a:Type}(b:ByteArray)(d:List (List Nat×a)):List a:=(d.filter λc=>decide (gj c.1=b)).map Prod.snd
def iu{a:Type}(d:ByteArray)(b:List (List Nat))(c:List a):List a:=kC d (b.zip c)
def ta{o p:Type}{R:o->p->Prop}(d:ByteArray):∀(c:List (List Nat)) (g:List o) (i:List p),G g=G i->(∀(a:Nat) (e:o) (f:p),g[a]?=O e->i[a]?=O f->R e f) ->(iu d c g).length=(iu d c i).length/\∀(a:Nat) (e:o) (f:p),(iu d c g)[a]?=O e->(iu d c i)[a]?=O f->R e f
 | [],g,i,_,_=>⟨rfl,λa e f h=>by simp[iu,kC]at h⟩
 |k::c,[],[],_,_=>⟨rfl,λa e f h=>by simp[iu,kC]at h⟩
 |k::c,[],f::i,h,_=>by cases h
 |k::c,e::g,[],h,_=>by cases h
 |k::c,e::g,f::i,h,s=>by
  have q:=ta (R:=R) d c g i lT (λa j b m n=>s (a+1) j b oz pn);have e1:∀{t:Type} (j:t) (r:List t),iu d (k::c) (j::r)=if gj k=d then j::iu d c r else iu d c r:=λj r=>by unfold iu kC;rw[List.zip_cons_cons,List.filter_cons];by_cases l:gj k=d<;>simp[l]
  rw[e1,e1];by_cases l:gj k=d
  ·rw[ak l,ak l];refine⟨by simp[q.1],λa j b m n=>?_⟩;cases a with
   |zero=>simp at m n;subst m;subst n;exact s 0 _ _ rfl rfl
   |succ a=>exact q.2 a j b oz pn
  ·rw[aj l,aj l];exact q
def itemOf{k:Nat}(c:ByteArray)(b:Nat)(V:f_ (VT k)):Option (VT k):=
 match iu c V.keys V.items with
 | [a]=>if kO a=b then O a else N
 |_=>N
section
def gJ(a:Nat):List Nat:=(Lib.decDigits a).map UInt8.toNat
def kN(a:Nat):List Nat:=DJ (10-(gJ a).length) 48++gJ a
def jj(b r:List Nat):Option (List Nat):=match gh b r with
 |none=>N
 |some a=>(gh [32,10] a).or (gh [13,10] a)
def jR:List Nat->List Nat->Option (List Nat)
 | [],r=>O r
 |a::b,r=>match jj (kN a++[32,48,48,48,48,48,32,110]) r with
  |none=>N
  |some c=>jR b c
def lV(b:Nat)(c r:List Nat):Option (List Nat):=match gh ([120,114,101,102,10,48,32]++gJ (b+1)++[10]) r with
 |none=>N
 |some a=>match jj [48,48,48,48,48,48,48,48,48,48,32,54,53,53,51,53,32,102] a with
  |none=>N
  |some a=>jR c a
def Tryz.gPow : Tryz.prog.globalNamed "internal/strconv.uint64pow10" = O 0:=by kernel_rfl
structure pR(B:Nat)(w:vz):Prop where
 pow:Lib.TabIs DG w "internal/strconv.uint64pow10" .u64 Lib.pow10Tab
 lp : 0<B
variable{B j f:Nat}{g:Option wT}{d:List Nat}{l m o:wg}{w c:vz}{r q:List Nat}
def bg(w:vz)(k:Nat)(b:Array Obj):wm w.heap.size w (Sort.grow (w.drewN k) b):=
 ⟨rfl,rfl,rfl,by simp[Sort.grow],λe a=>by simp[Sort.grow,Array.getElem?_append,a]⟩
def Nt(a:Nat):gj (gJ a)=⟨(Lib.decDigits a).toArray⟩:=by
 unfold gj gJ;congr 2;rw[dy];conv=>rhs;rw[<-List.map_id (Lib.decDigits a)]
 exact List.map_congr_left (λb _=>cO)
def io(h:pR B w)(n:B<=w.heap.size)(a:Nat)(i:a<=9223372036854775807):wh DG 97 #[I U a] w λb c=>b=BX (y7 (gj (gJ a)))/\wm w.heap.size w c:=by
 apply(Tryz.strconv_Itoa a Y Y w h.pow).m;rintro b c ⟨rfl,k,e,rfl⟩;refine⟨?_,bg w k e⟩;rw[Nt];unfold Lib.itoa;rw[aj Y];rfl
def xe:∀(k a:Nat),a<10^(k+1)->(gJ a).length<=k+1
 |0,a,h=>by unfold gJ;rw[Lib.decDigits,dif_pos lT];simp
 |k+1,a,h=>by
  have b:=xe k (a/10) (by rw[Nat.div_lt_iff_lt_mul bF];rw[c_]at h;exact h);unfold gJ at b ⊢;rw[Lib.decDigits];split;·simp
  ·rw[aq]at b ⊢;rw[ab,dU];omega
def pE(a b:List Nat):gj (a++b)=gj a++gj b:=by unfold gj;rw[aI];apply eC;simp
def Kh(a:List Nat):(gj a).size=G a:=by unfold gj;simp[ByteArray.size]
end
section
variable{B e c:Nat}{d:Option wT}{a:List Nat}{g i j:wg}{w w':vz}{r q:List Nat}
def iJ.drew{b:Nat}(w:vz):iJ b w w.drew:=.of_below (ar _ _).drew
def Hu(h:Nat):∀b∈gJ h,b<256:=by intro b f;obtain⟨k,_,rfl⟩:=cE.1 f;exact k.toNat_lt
def tableLines_none(f:List Nat)(b:Nat)(r:List Nat)(h:jj (kN b++[32,48,48,48,48,48,32,110]) r=N):jR (b::f) r=N:=by rw[jR,h]
def tableLines_some(f:List Nat)(b:Nat)(r q:List Nat)(h:jj (kN b++[32,48,48,48,48,48,32,110]) r=O q):jR (b::f) r=jR f q:=by rw[jR,h]
def lU(f:Nat)(b:f_ (VT 11)):Option Int:=
 if b.keys.length=2 then match itemOf {data:=#[83,105,122,101]} 2 b with
  |none=>N
  |some h=>if tK h=((f+1:Nat):Int)then(itemOf {data:=#[82,111,111,116]} 9 b).map tK else N
 else N
def nZ(k:Nat)(r:List Nat):Option (Int×List Nat):=match gx [116,114,97,105,108,101,114] r with
 |none=>N
 |some q=>match gh [60,60] (gq q)with
  |none=>N
  |some f=>match(jy (gC 11) (G f+1) f).map (λb=>((⟨7,0,0,[],b.1.2,b.1.1,[]⟩:f_ (VT 11)),b.2))with
   |none=>N
   |some (h,q)=>(lU k h).map λl=>(l,q)
def mU(b:Nat)(r:List Nat):Option (List Nat):=match gx [115,116,97,114,116,120,114,101,102] r with
 |none=>N
 |some q=>match gx (gJ b) q with
  |none=>N
  |some q=>match iq q with
   |none=>N
   |some q=>match gh [37,37,69,79,70] q with
    |none=>N
    |some q=>if(iq q).getD q=[]then O []else N
def qp{A:Type}{f:List Nat->Option (A×List Nat)}(v:∀r z q,f r=O (z,q)->G q+1<=G r):∀(l:Nat) (r q:List Nat) (b:List (List Nat)×List A),jy f l r=O (b,q)->b.1.length=b.2.length/\b.2.length+G q<=G r
 |0,r,q,b,h=>by cases h
 |l+1,r,q,b,h=>by
  simp only[jy]at h;have K:=jM r;cases p:gh [62,62] (gq r)with
  |some t=>rw[p]at h;simp at h;have:=(gZ p).1;rw[<-h.1,<-h.2];simp;omega
  |none=>
   rw[p]at h;simp only[]at h;cases m:gh [47] (gq r)with
   |none=>rw[m]at h;cases h
   |some t=>
    rw[m]at h;simp only[]at h;have M:=(gZ m).1;cases o:ld t with
    |none=>rw[o]at h;cases h
    |some F=>
     obtain⟨k,x⟩:=F;rw[o]at h;simp only[]at h;have P:=kU t 0 0 k x o;cases s:f x with
     |none=>rw[s]at h;cases h
     |some J=>
      obtain⟨z,y⟩:=J;rw[s]at h;simp only[]at h;cases n:jy f l y with
      |none=>rw[n]at h;cases h
      |some u=>obtain⟨u,E⟩:=u;rw[n]at h;simp at h;have L:=qp v l y E u n;have:=v _ _ _ s;obtain⟨C,D⟩:=h;subst C;subst D;simp only[ai];omega
end
section
variable{w w':vz}
def ii:Nat->ByteArray
 |1=>{data:=#[65,83,67,73,73,72,101,120,68,101,99,111,100,101]}
 |2=>{data:=#[65,83,67,73,73,56,53,68,101,99,111,100,101]}
 |3=>{data:=#[82,117,110,76,101,110,103,116,104,68,101,99,111,100,101]}
 |4=>{data:=#[70,108,97,116,101,68,101,99,111,100,101]}
 |_=>{data:=#[]}
def zP(a:ByteArray):Nat->Nat->Nat
 |0,_=>0
 |b+1,k=>if ii k=a then k else zP a b (k+1)
def rI(a:ByteArray):Nat:=zP a 4 1
def Qn(k:Nat)(b:1<=k)(c:k<=4)(w:vz):wh DG 290 #[I U k] w λa w'=>a=BX (y7 (ii k))/\w'=w:=by
 match k,b,c with
 |1,_,_=>go_enter fW,f7;go_wp2;go_ret;exact⟨rfl,rfl⟩
 |2,_,_=>go_enter fW,f7;go_wp2;go_ret;exact⟨rfl,rfl⟩
 |3,_,_=>go_enter fW,f7;go_wp2;go_ret;exact⟨rfl,rfl⟩
 |4,_,_=>go_enter fW,f7;go_wp2;go_ret;exact⟨rfl,rfl⟩
def kt{k:Nat}(a:VT k):Nat×List Nat:=(kO a,tO a)
def iK:{k:Nat}->VT k->List (Nat×List Nat)
 |0,_=>[]
 |_+1,V=>(f_.items V).map kt
def IY:{k:Nat}->VT k->Prop
 |0,_=>True
 |_+1,a=>(f_.items a).length<=200000/\(f_.keys a).length<=200000/\∀b∈f_.items a,IY b
def l6{k:Nat}(V:f_ (VT k)):Option (List (Nat×List Nat)):=
 match iu {data:=#[70,105,108,116,101,114]} V.keys V.items with
 | []=>O []
 | [a]=>if kO a=4 then O [kt a]else if kO a=6 then O (iK a)else N
 |_=>N
def l7:List (Nat×List Nat)->Option (List Nat)
 | []=>O []
 |a::b=>if a.1=4/\1<=rI (gj a.2)then(l7 b).map λr=>rI (gj a.2)::r else N
def iH{k:Nat}(V:f_ (VT k)):Option (List Nat):=match l6 V with
 |none=>N
 |some a=>l7 a
def tL{d:Type}{s:ByteArray}{ks:List (List Nat)}{a:List d}{c:d}(h:c∈iu s ks a):c∈a:=by unfold iu kC at h;obtain⟨⟨f,b⟩,e,rfl⟩:=cE.1 h;exact(eA (List.mem_filter.1 e).1).2
def vt(c:List (Nat×List Nat))(w:vz)(d:wg):Prop:=
 ∃(b:Nat->Prop) (k:Nat) (a:List (VT k)),oZ b k 0 a w d/\a.map kt=c
def iR.items{f:Nat->Prop}{k:Nat}{i:wg}{V:VT k}(h:iR f k w i V):∃(pp:Nat) (c e d:wg),i=Bc #[I U (kO V:Int),I U (tK V),I U pp,y7 (gj (tO V)),c,e,d]/\vt (iK V) w c/\(∃a n b,c=Z a n b)/\(∃a n b,e=Z a n b)/\∃a n b,d=Z a n b:=by
 cases k with
 |zero=>cases h
 |succ k=>obtain⟨c,e,d,r,q,p,g,l,o,m⟩:=iR.parts h;obtain⟨s,v,e1⟩:=ke g.1;obtain⟨t,x,e2⟩:=ke o.1;obtain⟨u,y,j⟩:=ke m.1;refine⟨_,c,e,d,q,⟨f,k,f_.items V,⟨r,g.1,p,l⟩,rfl⟩,⟨_,_,_,e1⟩,⟨_,_,_,e2⟩,⟨_,_,_,j⟩⟩
def Mg:(Tryz.prog.info? 3).map (λa=>(a.zero,a.size,a.bytes))=O (O (I U 0),1,8):=by kernel_rfl
def vt.len{c:List (Nat×List Nat)}{v:wg}(h:vt c w v):∃a b,v=Z a (G c) b:=by obtain⟨P,k,g,d,f⟩:=h;obtain⟨a,b,e⟩:=d.len;exact⟨a,b,by rw[e,<-f,aq]⟩
def vt.at{l:List (Nat×List Nat)}{v:wg}(h:vt l w v){i:Nat}{x:Nat×List Nat}(a:l[i]?=O x):∃g c,v=Z (O ⟨g,0,N⟩) (G l) c/\∃(n:Int) (pp:Nat) (ia:Option wT) (f ic:Nat) (ka:Option wT) (m kc:Nat) (fa:Option wT) (b fc:Nat),∀j o,([I U (x.1:Int),I U n,I U pp,y7 (gj x.2),Z ia f ic,Z ka m kc,Z fa b fc]:List wg)[j]?=O o->w.cell? ⟨g,i*7+j,N⟩=O o:=by
 obtain⟨P,k,p,q,rfl⟩:=h;rw[aE]at a;cases d:p[i]? with
 |none=>rw[d]at a;cases a
 |some y=>rw[d]at a;cases a;obtain⟨g,c,z,e,_,_,s,r⟩:=q.at d;obtain⟨pp,ia,f,ic,ka,m,kc,fa,b,fc,rfl⟩:=iR.form2 s;exact⟨g,c,by rw[e,aq],tK y,pp,ia,f,ic,ka,m,kc,fa,b,fc,r⟩
def Qj{k:Nat}{b:f_ (VT k)}(h:IY (k:=k+1) b){c:List (Nat×List Nat)}(a:l6 b=O c):G c<=200000:=by
 unfold l6 at a;have e:=h.2.2;split at a;·cases a;simp
 ·next d f=>
  have g:d∈b.items:=tL (s:={data:=#[70,105,108,116,101,114]}) (ks:=b.keys) (by rw[f];simp);split at a;·cases a;simp
  ·split at a
   ·cases a;have:=e d g;cases k with
    |zero=>exact aw _
    |succ k=>unfold iK;rw[aq];exact this.1
   ·cases a
 ·cases a
def i7(a:ByteArray):Bool:=decide (a.size<=60) && !(a.data.toList.contains 0)
def n_(a:List (List Nat))(b:Nat):Bool:=decide (G a=b)&&(a.all λc=>i7 (gj c))&&decide ((a.map gj).Nodup)
def Ac(a:Int)(oq:Nat):Bool:=(decide (oq=0)||decide (a.tmod 10≠0))&&decide (oq<=5)&&decide (-999999999<=a/\a<=999999999)
def lj(a:ByteArray):Bool:=decide (a={data:=#[76,101,110,103,116,104]})||decide (a={data:=#[70,105,108,116,101,114]})||decide (a={data:=#[68,101,99,111,100,101,80,97,114,109,115]})
def lC{α:Type}(a:f_ α):Bool:=n_ a.keys a.items.length&&decide ((gj a.text).size<=20000)&&decide (a.filters.length<=4)&&(a.keys.all λc=> !lj (gj c))&&(a.filters.all λb=>decide (1<=b/\b<=4))
def lE{α:Type}(a:f_ α):Bool:=match a.kind with
 |0=>CD
 |6=>CD
 |9=>CD
 |1=>decide (0<=a.n/\a.n<=1)
 |2=>decide (-2147483648<=a.n/\a.n<=2147483647)
 |3=>Ac a.n a.places
 |4=>i7 (gj a.text)
 |5=>decide ((gj a.text).size<=4000)
 |7=>n_ a.keys a.items.length
 |8=>lC a
 |_=>CS
def lx{α:Type}(a:f_ α):Bool:=
 (decide (a.kind=1\/a.kind=2\/a.kind=9\/a.kind=3)||decide (a.n=0))&&(decide (a.kind=3)||decide (a.places=0))&&(decide (a.kind=4\/a.kind=5\/a.kind=8)||decide (a.text=[])) &&
 (decide (a.kind=6\/a.kind=7\/a.kind=8)||decide (a.items=[]))&&(decide (a.kind=7\/a.kind=8)||decide (a.keys=[]))&&(decide (a.kind=8)||decide (a.filters=[]))
def s_{α:Type}(d b c:Nat)(a:f_ α):Bool:=decide (c+a.items.length<=2000) && !(decide (a.kind=8/\1<b)) && !(decide (a.kind=9/\¬(1<=a.n/\a.n<=(d:Int))))&&lx a&&lE a
def rR(c:Nat):(k:Nat)->Nat->List (VT k)->Option Nat
 |0,a,_=>O a
 |k+1,a,d=>d.foldlM (λ(a:Nat) (b:f_ (VT k))=>if s_ c (12-k) a b=CD then rR c k (a+b.items.length) b.items else N) a
def jh(a:List (VT 12))(root:Int):Bool:=decide (1<=G a/\G a<=100)&&decide (1<=root/\root<=(G a:Int))&&decide ((a[(root-1).toNat]?).map (λb:VT 12=>f_.kind (α:=VT 11) b)=O 7)&&(rR (G a) 12 (G a) a).isSome
def Mj:∀a:List UInt8,(Lib.indexByte a 0<0)↔a.contains 0=CS
 | []=>by simp[Lib.indexByte]
 |b::a=>by
  have j:=Mj a;have i:∀a:List UInt8,-1<=Lib.indexByte a 0:=by
   intro a;induction a with
   |nil=>simp[Lib.indexByte]
   |cons b a l=>
    unfold Lib.indexByte;split;·omega
    ·split;·omega
     ·omega
  have k:=i a;unfold Lib.indexByte;by_cases c:b=0;·subst c;simp
  ·have e:(b==0)=CS:=by simpa using c
   have f:¬(0=b):=λh=>c h.s;rw[e,List.contains_cons];have g:((0:UInt8)==b)=CS:=by simpa using f
   rw[g,Bool.false_or,<-j];by_cases d:Lib.indexByte a 0 = -1;·simp[d]
   ·have:(Lib.indexByte a 0 == -1)=CS:=by simpa using d
    rw[this];simp only[Bool.false_eq_true,if_false];omega
def QT(a:ByteArray)(w:vz):wh DG 286 #[y7 a,I .u8 0] w λe w'=>e=BX (I U (Lib.indexByte a.data.toList 0))/\w'=w:=by
 have d:wh DG 318 #[y7 a,I .u8 0] w λe w'=>e=BX (I U (Lib.indexByte a.data.toList 0))/\w'=w:=by
  go_in
  go_wp2;rw[run_callFunc_extern func333 aG aG aG (e:=Extern.BytealgIndexByte.indexByte) aG,Lib.run_indexByteString];simp only[Result.andThen];rw[Oper.upon_value];go_wp2;go_ret;exact⟨rfl,rfl⟩
 have c:=H d
 go_in
 go_wp2_with fail;apply c.o.m;rintro e w' ⟨rfl,b⟩;have b:=b.s;subst b;go_wp2;go_ret;exact⟨rfl,rfl⟩
def Gh(a:ByteArray)(w:vz):wh DG 231 #[y7 a] w λg w'=>g=BX (Bs (i7 a))/\w'=w:=by
 by_cases h:a.size<=60
 ·have d:=Mj a.data.toList;have j:=H (QT a w);generalize Lib.indexByte a.data.toList 0=i at *;have b:i7 a=decide (i<0):=by
   unfold i7;rw[aH h,cC];by_cases f:i<0;·rw[d.1 f];simp[f]
   ·have c:a.data.toList.contains 0=CD:=by
     cases c:a.data.toList.contains 0 with
     |true=>rfl
     |false=>exact absurd (d.2 c) f
    rw[c];simp;omega
  rw[b];clear d b
  go_in
  go_wp2_with fail;apply j.o.m;rintro g w' ⟨rfl,e⟩;have e:=e.s;subst e;go_wp2;go_ret;exact⟨rfl,rfl⟩
 ·have b:i7 a=CS:=by unfold i7;rw[av h];rfl
  rw[b]
  go_in
  go_wp2;go_ret;exact⟨rfl,rfl⟩
def Kr(a c b:Int)(w:vz):wh DG 63 #[I U a,I U c,I U b] w λd w'=>d=BX (Bs (decide (c<=a/\a<=b)))/\w'=w:=by
 by_cases h:c<=a/\a<=b;·rw[aH h];exact BZ a c b w h.1 h.2
 ·rw[av h];exact BU a c b w Y
end
section
variable{w g:vz}
def o_(a:ByteArray):Bool:=decide (a={data:=#[76,101,110,103,116,104]})||decide (a={data:=#[70,105,108,116,101,114]})
def jW{a:Type}(c:List (List Nat×a)):List (List Nat×a):=c.filter λb=> !o_ (gj b.1)
def kq{k:Nat}(a:f_ (VT k)):Option (f_ (VT k)):=(iH a).map λb=>⟨8,0,0,[],(jW (a.keys.zip a.items)).map Prod.snd,(jW (a.keys.zip a.items)).map Prod.fst,b⟩
def DP{b:Type}(a:List (List Nat×b)):(jW a).length<=G a:=List.length_filter_le _ _
structure St(a:vz)(f:wg)(w:vz)(b:wg)(e:List wg)(d:wg)(c:List (List Nat)):Prop where
 below:wm a.heap.size a w
 vb:w.heap[a.heap.size]?=O (BV #[I U 8,I U 0,I U 0,y7 {data:=#[]},b,d,f] 67 (0,0))
 own:w.ownsRow (a.heap.size+1) 67 7 b (G e) (e.flatMap cellsOf)
 ownk:w.ownsRow (a.heap.size+1) 9 1 d (G c) (c.map λs=>y7 (gj s))
variable{a:vz}{f b d:wg}{e:List wg}{c:List (List Nat)}
end
def xr{m:Type}{b:List Nat->Option (m×List Nat)}(j:∀r l a,b r=O (l,a)->G a+1<=G r):∀(d:Nat) (r a:List Nat) (c:List m),kS b d r=O (c,a)->G c+G a<=G r
 |0,r,a,c,h=>by cases h
 |d+1,r,a,c,h=>by
  simp only[kS]at h;have s:=jM r;cases f:gh [93] (gq r)with
  |some u=>rw[f]at h;simp at h;have:=(gZ f).1;rw[h.1,<-h.2];simp;omega
  |none=>
   rw[f]at h;simp only[]at h;cases g:b (gq r)with
   |none=>rw[g]at h;cases h
   |some q=>
    obtain⟨l,k⟩:=q;rw[g]at h;simp only[]at h;cases e:kS b d k with
    |none=>rw[e]at h;cases h
    |some i=>obtain⟨i,p⟩:=i;rw[e]at h;simp at h;have t:=xr j d k p i e;have:=j _ _ _ g;obtain⟨n,o⟩:=h;subst n;subst o;simp only[ai];omega
def xo{l:Type}{c:List Nat->Option (l×List Nat)}{n:l->Prop}{m:Nat}(p:∀r e a,c r=O (e,a)->G a<=G r)(o:∀r e a,c r=O (e,a)->G r<=m->n e):∀(i:Nat) (r a:List Nat) (g:List l),kS c i r=O (g,a)->G r<=m->∀b∈g,n b
 |0,r,a,g,h,_=>by cases h
 |i+1,r,a,g,h,y=>by
  simp only[kS]at h;have z:=jM r;cases q:gh [93] (gq r)with
  |some A=>rw[q]at h;simp at h;rw[h.1];intro b d;cases d
  |none=>
   rw[q]at h;simp only[]at h;cases f:c (gq r)with
   |none=>rw[f]at h;cases h
   |some b=>
    obtain⟨e,s⟩:=b;rw[f]at h;simp only[]at h;cases j:kS c i s with
    |none=>rw[j]at h;cases h
    |some k=>
     obtain⟨k,v⟩:=k;rw[j]at h;simp at h;have x:=p _ _ _ f;have u:=xo p o i s v k j Y;have:=o _ _ _ f Y;obtain⟨t,w⟩:=h;subst t;intro b d;rcases cJ.1 d with rfl|d;·exact this
     ·exact u b d
def xG{p:Type}{c:List Nat->Option (p×List Nat)}{s:p->Prop}{q:Nat}(u:∀r e a,c r=O (e,a)->G a<=G r)(t:∀r e a,c r=O (e,a)->G r<=q->s e):∀(i:Nat) (r a:List Nat) (g:List (List Nat)×List p),jy c i r=O (g,a)->G r<=q->∀b∈g.2,s b
 |0,r,a,g,h,_=>by cases h
 |i+1,r,a,g,h,E=>by
  simp only[jy]at h;have F:=jM r;cases v:gh [62,62] (gq r)with
  |some n=>rw[v]at h;simp at h;rw[<-h.1];intro b d;cases d
  |none=>
   rw[v]at h;simp only[]at h;cases j:gh [47] (gq r)with
   |none=>rw[j]at h;cases h
   |some n=>
    rw[j]at h;simp only[]at h;have J:=(gZ j).1;cases m:ld n with
    |none=>rw[m]at h;cases h
    |some B=>
     obtain⟨k,w⟩:=B;rw[m]at h;simp only[]at h;have K:=kU n 0 0 k w m;cases f:c w with
     |none=>rw[f]at h;cases h
     |some b=>
      obtain⟨e,x⟩:=b;rw[f]at h;simp only[]at h;cases l:jy c i x with
      |none=>rw[l]at h;cases h
      |some o=>
       obtain⟨o,A⟩:=o;rw[l]at h;simp at h;have D:=u _ _ _ f;have z:=xG u t i x A o l Y;have:=t _ _ _ f Y;obtain⟨y,C⟩:=h;subst y;intro b d;rcases cJ.1 d with rfl|d;·exact this
       ·exact z b d
def oP(b:Nat):{k:Nat}->VT k->Prop
 |0,_=>True
 |_+1,a=>(f_.items a).length<=b/\(f_.keys a).length<=b/\(f_.kind a=7->(f_.keys a).length=(f_.items a).length)/\f_.kind a≠8/\(f_.filters a)=[]/\∀c∈f_.items a,oP b c
def oP.leaf(b k a:Nat)(d:Int)(e:Nat)(f:List Nat)(h:a≠8):oP b (k:=k+1) (ik (VT k) a d e f):=
 ⟨aw _,aw _,λ_=>rfl,h,rfl,λg c=>by cases c⟩
def oP.few:∀{k:Nat} {a:VT k},oP 200000 a->IY a
 |0,_,_=>trivial
 |k+1,a,h=>⟨h.1,h.2.1,λc b=>oP.few (h.2.2.2.2.2 c b)⟩
def pq{e:Nat}:∀{k:Nat} {r b:List Nat} {g:VT k},gC k r=O (g,b)->G r<=e->oP e g
 |0,r,b,g,h,_=>by cases h
 |k+1,r,b,g,h,z=>by
  have u:∀r d b,gC k r=O (d,b)->G b+1<=G r:=λr d b h=>jY h;have t:∀r d b,gC k r=O (d,b)->G b<=G r:=λr d b h=>by have:=jY h;omega
  have s:∀r d b,gC k r=O (d,b)->G r<=e->oP e d:=λr d b h v=>pq h v;simp only[gC]at h;have A:=jM r;cases l:gh [91] (gq r)with
  |some c=>
   rw[l]at h;simp only[]at h;have w:=(gZ l).1;cases a:kS (gC k) (G c+1) c with
   |none=>rw[a]at h;cases h
   |some f=>rw[a]at h;obtain⟨n,y⟩:=f;have i:=xr u _ _ _ _ a;have j:=xo t s _ _ _ _ a Y;cases h;exact⟨by show (G n)<=e;omega,aw _,λh=>(by cases h),by show 6≠8;decide,rfl,j⟩
  |none=>
   rw[l]at h;simp only[]at h;cases m:gh [60,60] (gq r)with
   |some c=>
    rw[m]at h;simp only[]at h;have w:=(gZ m).1;cases a:jy (gC k) (G c+1) c with
    |none=>rw[a]at h;cases h
    |some f=>rw[a]at h;obtain⟨⟨x,n⟩,y⟩:=f;have i:=qp u _ _ _ _ a;have j:=xG t s _ _ _ _ a Y;simp only[]at i;cases h;exact⟨by show (G n)<=e;omega,by show (G x)<=e;omega,λ_=>i.1,by show 7≠8;decide,rfl,j⟩
   |none=>
    rw[m]at h;simp only[]at h;cases o:gh [60] (gq r)with
    |some c=>
     rw[o]at h;simp only[]at h;cases a:lF c with
     |none=>rw[a]at h;cases h
     |some f=>rw[a]at h;cases h;exact oP.leaf _ _ _ _ _ _ bF
    |none=>
     rw[o]at h;simp only[]at h;cases p:gh [40] (gq r)with
     |some c=>
      rw[p]at h;simp only[]at h;cases a:lq c with
      |none=>rw[a]at h;cases h
      |some f=>rw[a]at h;cases h;exact oP.leaf _ _ _ _ _ _ bF
     |none=>
      rw[p]at h;simp only[]at h;cases q:gh [47] (gq r)with
      |some c=>
       rw[q]at h;simp only[]at h;cases a:ld c with
       |none=>rw[a]at h;cases h
       |some f=>rw[a]at h;cases h;exact oP.leaf _ _ _ _ _ _ bF
      |none=>
       rw[q]at h;simp only[]at h;unfold iX at h;split at h;·cases h;exact oP.leaf _ _ _ _ _ _ bF
       ·split at h;·cases h;exact oP.leaf _ _ _ _ _ _ bF
        ·split at h;·cases h;exact oP.leaf _ _ _ _ _ _ bF
         ·split at h
          ·split at h;·cases h;exact oP.leaf _ _ _ _ _ _ bF
           ·cases h;exact oP.leaf _ _ _ _ _ _ bF
          ·split at h;·cases h;exact oP.leaf _ _ _ _ _ _ bF
           ·cases h
def kA{k:Nat}(c:f_ (VT k))(r:List Nat):Option ((f_ (VT k)×List Nat)×List Nat):=
 match(gh [10] r).or (gh [13,10] r)with
 |none=>N
 |some b=>match itemOf {data:=#[76,101,110,103,116,104]} 2 c with
  |none=>N
  |some a=>if 0<=tK a/\tK a<=(G b:Int)then
    match gh [10] (b.drop (tK a).toNat)with
    |none=>N
    |some d=>if d.takeWhile pB=[101,110,100,115,116,114,101,97,109]then
      match kq c with
      |none=>N
      |some e=>O ((e,b.take (tK a).toNat),d.dropWhile pB)
     else N
   else N
def jo(r:List Nat):Option ((VT 12×List Nat)×List Nat):=match gC 12 r with
 |none=>N
 |some (V,q)=>if f_.kind (α:=VT 11) V=7 then
   match gx [115,116,114,101,97,109] q with
   |some a=>kA (k:=11) V a
   |none=>O ((V,[]),q)
  else O ((V,[]),q)
def mF(a:Nat)(r:List Nat):Option ((VT 12×List Nat)×List Nat):=
 match gx (gJ a) r with
 |none=>N
 |some b=>match gx [48] b with
  |none=>N
  |some c=>match gx [111,98,106] c with
   |none=>N
   |some d=>match jo d with
    |none=>N
    |some (g,e)=>match gx [101,110,100,111,98,106] e with
     |none=>N
     |some f=>O (g,f)
def EC{k:Nat}{b:f_ (VT k)}{r a:List Nat}{g:f_ (VT k)×List Nat}(h:kA b r=O (g,a)):G a<=G r:=by
 unfold kA at h;split at h;·cases h
 ·next e e1=>
  have i:G e<=G r:=by
   cases e2:gh [10] r with
   |some j=>rw[e2]at e1;cases e1;have:=(gZ e2).1;omega
   |none=>rw[e2]at e1;have:=(gZ (s:=[13,10]) (by simpa using e1)).1;omega
  split at h;·cases h
  ·split at h
   ·split at h;·cases h
    ·next f c=>
     have d:=(gZ c).1;rw[aU]at d;split at h
     ·split at h;·cases h
      ·cases h;have:=Dl (p:=pB) f;omega
     ·cases h
   ·cases h
def sj{r q:List Nat}{x:VT 12×List Nat}(h:jo r=O (x,q)):G q+1<=G r:=by
 unfold jo at h;split at h;·cases h
 ·next b e e1=>
  have a:=jY e1;split at h
  ·split at h
   ·next f e2=>have c:=jf e2;have d:=EC h;omega
   ·cases h;exact a
  ·cases h;exact a
def uU{e:Nat}{r a:List Nat}{f:VT 12×List Nat}(h:mF e r=O (f,a)):G a+1<=G r:=by
 unfold mF at h;split at h;·cases h
 ·next g e1=>
  split at h;·cases h
  ·next i e2=>
   split at h;·cases h
   ·next j b=>
    split at h;·cases h
    ·next m k c=>
     split at h;·cases h
     ·next l d=>cases h;have:=jf e1;have:=jf e2;have:=jf b;have:=sj c;have:=jf d;omega
section
variable{B d b:Nat}{c:Option wT}{a:List Nat}{f i j:wg}{w e:vz}{q r:List Nat}
def GH{l:Func}{n p:Tmp}{o:TypeId}(h:l.results=#[.cell n o,.tmp p])(g:Array wg)(w:vz)(m:Nat)(k:Array wg)
  (t:g.getD n undef=A3 (O ⟨m,0,N⟩)) (s:(loadVar o ⟨m,0,N⟩).run DG w=.ok (Bc k) w):(results l g).run DG w=.ok (BG #[Bc k,g.getD p undef]) w:=by
 rw[results_cell_tmp h,t];simp[asAddr,s]
end
section
variable{w a:vz}
def yT:{k:Nat}->VT k->Prop
 |0,_=>True
 |_+1,b=>(f_.items b).length<=200000/\(f_.keys b).length<=200000/\(f_.filters b).length<=200000/\∀c∈f_.items b,yT c
end
section
variable{w s:vz}
variable{t:vz}{B k c:Nat}{j:Option wT}{a q:List Nat}{m p l:wg}{r:List wg}{i:List (VT 12)}{o:List wg}{f:List (List Nat)}{d:List Nat}
def MJ{w:vz}{b v e n E F C D:Nat}{g u:wg}{J K:List wg}(h:w.ownsRow b e E g C J)(y:w.ownsRow v n F u D K)(A:e≠n):g.ownBlock=N\/g.ownBlock≠u.ownBlock:=by
 cases z:g.ownBlock with
 |none=>exact C1 rfl
 |some x=>exact C2 (λe=>Gz h y A x z e.s)
end
section
variable{w p:vz}{s:vz}{B i c:Nat}{g:Option wT}{a q:List Nat}{k m j:wg}{o:List wg}{Vs:List (VT 12)}{l:List wg}{e:List (List Nat)}{d:List Nat}
def Ak{w:vz}{b:Nat}{y z A C D E F:wg}(h:w.heap[b]?=O (BV #[y,z,A,C,D,E,F] 67 (0,0)))(f n r t u v x:wg):(((((((w.setCell ⟨b,0,N⟩ f).setCell ⟨b,1,N⟩ n).setCell ⟨b,2,N⟩ r).setCell ⟨b,3,N⟩ t).setCell ⟨b,4,N⟩ u).setCell ⟨b,5,N⟩ v).setCell ⟨b,6,N⟩ x).heap[b]?=O (BV #[f,n,r,t,u,v,x] 67 (0,0)):=by
 rw[nu _ (nu _ (nu _ (nu _ (nu _ (nu _ (nu _ h))))))];rfl
def jU(len:Nat):Nat->Nat->List Nat->Option ((List (VT 12×List Nat)×List Nat)×List Nat)
 |0,_,_=>N
 |h+1,f,r=>if([120,114,101,102]:List Nat).isPrefixOf r=CD then O (([],[]),r)else match mF (f+1) r with
  |none=>N
  |some (n,q)=>(jU len h (f+1) (gq q)).map λb=>((n::b.1.1,(len-G r)::b.1.2),b.2)
def jK(a:List Nat):Option (List (VT 12×List Nat)×Int):=match gh [37,80,68,70,45,49,46,52,10] a with
 |none=>N
 |some r=>match jU (G a) (G r+2) 0 (gq r)with
  |none=>N
  |some b=>match lV b.1.1.length b.1.2 b.2 with
   |none=>N
   |some h=>match nZ b.1.1.length h with
    |none=>N
    |some f=>match mU (G a-b.2.length) f.2 with
     |none=>N
     |some _=>O (b.1.1,f.1)
def Cz{w:vz}{b:Nat}{t u:wg}{f:TypeId}(h:w.heap[b]?=O (BV #[t,u] f (0,0)))(n r:wg):((w.setCell ⟨b,0,N⟩ n).setCell ⟨b,1,N⟩ r).heap[b]?=O (BV #[n,r] f (0,0)):=by
 rw[nu _ (nu _ h)];rfl
end
def oP.fewf:∀{k:Nat} {a:VT k},oP 200000 a->yT a
 |0,_,_=>trivial
 |k+1,a,h=>⟨h.1,h.2.1,by rw[h.2.2.2.2.1];exact aw _,λc b=>oP.fewf (h.2.2.2.2.2 c b)⟩
def zx:∀(a:List (Nat×List Nat)) (r:List Nat),l7 a=O r->G r<=G a
 | [],r,h=>by cases h;exact ag _
 |d::a,r,h=>by
  simp only[l7]at h;split at h
  ·cases b:l7 a with
   |none=>rw[b]at h;cases h
   |some c=>rw[b]at h;cases h;have:=zx a c b;simp only[ai];omega
  ·cases h
def qR{k:Nat}{a f:f_ (VT k)}(e:oP 200000 (k:=k+1) a)(h:kq a=O f):yT (k:=k+1) f:=by
 unfold kq at h;cases c:iH a with
 |none=>rw[c]at h;cases h
 |some g=>
  rw[c]at h;cases h;have i:(jW (a.keys.zip a.items)).length<=200000:=aJ (DP _) (by rw[eH];have d:=e.1;omega);refine⟨by show((jW (a.keys.zip a.items)).map Prod.snd).length<=_;rw[aq];exact i,by show((jW (a.keys.zip a.items)).map Prod.fst).length<=_;rw[aq];exact i,?_,?_⟩
  ·show (G g)<=200000;unfold iH at c;cases e2:l6 a with
   |none=>rw[e2]at c;cases c
   |some n=>rw[e2]at c;have d:=zx n g c;have q:=Qj (oP.few (k:=k+1) e) e2;omega
  ·intro o l;have m:o∈((jW (a.keys.zip a.items)).map Prod.snd):=l;obtain⟨⟨p,b⟩,d,rfl⟩:=cE.1 m;have j:=(eA (List.mem_filter.1 d).1).2;exact oP.fewf (e.2.2.2.2.2 _ j)
def uA{r e:List Nat}{b:VT 12×List Nat}(h:jo r=O (b,e))(d:G r<=200000):yT b.1:=by
 unfold jo at h;split at h;·cases h
 ·next g i e1=>
  have a:=pq e1 d;split at h
  ·split at h
   ·next j e2=>
    unfold kA at h;split at h;·cases h
    ·split at h;·cases h
     ·split at h
      ·split at h;·cases h
       ·split at h
        ·split at h;·cases h
         ·next f c=>cases h;exact qR (k:=11) a c
        ·cases h
      ·cases h
   ·cases h;exact oP.fewf a
  ·cases h;exact oP.fewf a
section
variable{w d:vz}
def iR.split{P:Nat->Prop}{k:Nat}{q:wg}{V:f_ (VT k)}(h:iR P (k+1) w q V):∃(l:Option wT) (m:Nat) (o:Option wT) (p:Nat) (b:Option wT) (c:Nat),q=Bc #[I U (V.kind:Int),I U V.n,I U (V.places:Int),y7 (gj V.text),Z l V.items.length m,Z o V.keys.length p,Z b V.filters.length c] /\
   oZ P k 0 V.items w (Z l V.items.length m)/\w.ownsRow 0 9 1 (Z o V.keys.length p) V.keys.length (V.keys.map λs=>y7 (gj s))/\w.ownsRow 0 3 1 (Z b V.filters.length c) V.filters.length (V.filters.map λf:Nat=>I U f):=by
 obtain⟨C,D,B,A,rfl,a,g,z,j,e⟩:=h.parts;obtain⟨r,v,rfl⟩:=ke g.1;obtain⟨t,x,rfl⟩:=ke j.1;obtain⟨u,y,rfl⟩:=ke e.1;have i:=g.1;rw[a]at i;exact⟨r,v,t,x,u,y,by rw[a];rfl,⟨A,by rw[a];exact i,a,z⟩,j.1,e.1⟩
def JP{b f k c j a:Nat}{e:Option wT}{l:List wg}(h:w.ownsRow b f k (Z e j a) c l):c<=9223372036854775807:=by
 rcases h.2 with⟨_,rfl⟩|⟨g,a,m,e1,_,o,n,i,_⟩;·omega
 ·simp only[maxLen]at i;omega
def bQ{a:Nat}{b w:vz}(h:wm a b w)(c:Nat):wm a b (w.drewN c):=h.t ⟨rfl,rfl,rfl,ag _,λ_ _=>rfl⟩
end
def jV(r:List Nat):Prop:=∀b a,r=b::a->pB b=CS
def jV.cons{b:Nat}{c:List Nat}(h:pB b=CS):jV (b::c):=λd e a=>by cases a;exact h
def lZ(s:List Nat):Prop:=s≠[]/\∀b∈s,pB b=CD
def Ap{r:List Nat}(a:jV r):r.takeWhile pB=[]/\r.dropWhile pB=r:=by
 cases r with
 |nil=>exact⟨rfl,rfl⟩
 |cons b c=>simp[List.takeWhile,List.dropWhile,a b c rfl]
def xY:∀{s r:List Nat},(∀b∈s,pB b=CD)->jV r->(s++r).takeWhile pB=s/\(s++r).dropWhile pB=r
 | [],r,_,a=>Ap a
 |b::s,r,c,a=>by have d:=xY (s:=s) (r:=r) (λg f=>c g (cu _ f)) a;have e:=c b (bU ..);simp[e,d.1,d.2]
def Aa{b:Nat}(h:pB b=CD):wB b=CS/\p_ b=CS:=by unfold pB at h;simpa using h
def tM{b a:Nat}(h:pB b=CD)(c:pB a=CS):b≠a:=by rintro rfl;rw[h]at c;cases c
def yp{b:Nat}{a:List Nat}(h:pB b=CD):gq (b::a)=b::a:=pK (Aa h).1 (tM h rfl)
def tF{b:Nat}{a:List Nat}(h:wB b=CD):gq (b::a)=gq a:=by show jX CS (b::a)=_;rw[jX,ak h];rfl
def Aq(a r:List Nat):gx a (gq r)=gx a r:=by unfold gx;rw[AD,AE]
def ph{b:Nat}{s a:List Nat}(h:wB b=CD):gx s (b::a)=gx s a:=by rw[<-Aq,tF h,Aq]
def sW{a r:List Nat}(f:lZ a)(e:jV r):gI (a++r)=a/\gE (a++r)=r:=by obtain⟨d,c⟩:=f;obtain⟨b,a,rfl⟩:=dM d;unfold gI gE;rw[bH,yp (c b (bU ..)),<-bH];exact xY c e
def nB{s r:List Nat}(b:lZ s)(a:jV r):gx s (s++r)=O r:=by unfold gx;rw[(sW b a).1,(sW b a).2,ak rfl]
def xX{a b r:List Nat}(d:lZ a)(c:jV r)(h:a≠b):gx b (a++r)=N:=by unfold gx;rw[(sW d c).1,aj h]
def wA{b:Nat}{s f:List Nat}(h:pB b=CS)(e:wB b=CS)(c:b≠37)(d:s≠[]):gx s (b::f)=N:=by unfold gx gI;rw[pK e c,(Ap (jV.cons h)).1,aj (λa=>d a.s)]
def jG(s r:List Nat):gh s (s++r)=O r:=by unfold gh;rw[ak cO,List.drop_left]
def lS{b a:Nat}{c d:List Nat}(h:a≠b):gh (a::c) (b::d)=N:=by unfold gh;rw[aj];simp[List.isPrefixOf,h]
structure sH(G:List Nat):Prop where
 skip:∀r,gq (G++r)=gq r
 np:∀r,jV r->jV (G++r)
def sH.white{b:Nat}(h:wB b=CD):sH [b]:=⟨λr=>tF h,λr _=>jV.cons (by unfold pB;rw[h];rfl)⟩
def AA{k:Nat}(r:List Nat):gC (k+1) (gq r)=gC (k+1) r:=by unfold gC;rw[kV,Fh]
def sH.value{a:List Nat}(h:sH a){k:Nat}(r:List Nat):gC (k+1) (a++r)=gC (k+1) r:=by rw[<-AA,h.skip,AA]
def v_{b:Nat}(h:pB b=CD):b≠91/\b≠60/\b≠40/\b≠47/\b≠93/\b≠62/\b≠37:=
 ⟨tM h rfl,tM h rfl,tM h rfl,tM h rfl,tM h rfl,tM h rfl,tM h rfl⟩
def qF{k:Nat}{a r:List Nat}(g:lZ a):gC (k+1) (a++r)=iX (VT k) (a++r):=by obtain⟨e,f⟩:=g;obtain⟨b,a,rfl⟩:=dM e;have c:=f b (bU ..);obtain⟨h,d,i,j,_⟩:=v_ c;unfold gC;rw[bH,yp c,lS h.s,lS d.s,lS d.s,lS i.s,lS j.s]
def ju(a:Nat):List Nat:=(Lib.decDigits a).map UInt8.toNat
def w_{a:Nat}(h:a<10):(UInt8.ofNat (48+a)).toNat=48+a:=by rw[UInt8.toNat_ofNat'];omega
def uq{a:Nat}(h:a<10):ju a=[48+a]:=by unfold ju;rw[Lib.decDigits,dif_pos h];simp only[bM,ew,w_ h]
def vN{a:Nat}(h:¬a<10):ju a=ju (a/10)++[48+a%10]:=by unfold ju;rw[Lib.decDigits,dif_neg h,aI];simp only[bM,ew,w_ (show a%10<10 by omega)]
def qO(c:Nat):ju c≠[]/\∀b∈ju c,48<=b/\b<=57:=by
 induction c using Nat.strongRecOn with
 |_ c d=>
  by_cases h:c<10;·rw[uq h];exact⟨cO,λb a=>by simp at a;omega⟩
  ·rw[vN h];refine⟨cO,λb a=>?_⟩;rcases aZ.1 a with a|a;·exact(d (c/10) Y).2 b a
   ·simp at a;omega
def wX{b:Nat}(h:48<=b/\b<=57):pB b=CD:=by
 have:∀b:Fin 10,pB (48+b.val)=CD:=bF;have:=this ⟨b-48,Y⟩
 rwa [show 48+(b-48)=b by omega]at this
def rE(a:Nat):lZ (ju a):=⟨(qO a).1,λb c=>wX ((qO a).2 b c)⟩
def DT(a:List Nat)(b:Nat):iC (a++[b])=10*iC a+(b-48):=by unfold iC;rw[List.foldl_append];rfl
def vW(a:Nat):iC (ju a)=a:=by
 induction a using Nat.strongRecOn with
 |_ a b=>
  by_cases h:a<10;·rw[uq h];simp[iC]
  ·rw[vN h,DT,b (a/10) Y];omega
def zg{a:List Nat}(h:∀b∈a,48<=b/\b<=57):gA a=([],a):=by
 cases a with
 |nil=>rfl
 |cons b c=>have:=h b (bU ..);show(if b=43\/b=45 then([b],c)else(([]:List Nat),b::c))=_;rw[aj Y]
def CY{a:List Nat}(c:a≠[])(h:∀b∈a,48<=b/\b<=57):na a=O (iC a:Int):=by unfold na;rw[zg h];rw[ak ⟨c,by rw[bG];intro b d;have:=h b d;simp[gX];omega⟩,aj cO]
def pW:∀(k a:Nat),a<10^(k+1)->(ju a).length<=k+1
 |0,a,h=>by rw[uq lT];exact ag _
 |k+1,a,h=>by
  have c:=pW k (a/10) (by rw[Nat.div_lt_iff_lt_mul bF];rw[c_]at h;exact h);by_cases b:a<10;·rw[uq b];simp
  ·rw[vN b,ab,dU];omega
def wD{a:Nat}(h:a<10^10):jZ (ju a)=O (a:Int):=by unfold jZ;rw[zg (qO a).2,ak ⟨fI.2 (qO a).1,pW 9 a h⟩,CY (qO a).1 (qO a).2,vW]
section
variable{w a:vz}
def uz:Nat->Nat->List Nat
 |_,0=>[]
 |b,c+1=>uz (b/10) c++[48+b%10]
def uD:Nat->Nat->List Nat
 |0,b=>uz b 1
 |c+1,b=>if b<10 then uz b 1 else uD c (b/10)++uz (b%10) 1
def zV(b d:List Nat)(c:Nat):List Nat:=uD 18 (c+1)++([32]++(b++([48]++(b++([32,111,98,106]++(b++([10]++(d++([10]++(b++([101,110,100,111,98,106,10]++b)))))))))))
def A0(d k:Int)(c b:Nat):Nat:=if(c:Int)=k then((b:Int)+d).toNat else b
def Gi(b:Nat):List Nat:=uz b 10++[32,48,48,48,48,48,32,110,32,10]
def Ct(e:List Nat)(f k:Int):Nat->List (List Nat)->List Nat->List Nat->List Nat×List Nat
 |_,[],b,d=>(b,d)
 |c,h::g,b,d=>Ct e f k (c+1) g (b++zV e h c) (d++Gi (A0 f k c (G b)))
def Gj(b:Nat):List Nat:=[120,114,101,102,10,48,32]++(uD 18 (b+1)++[10,48,48,48,48,48,48,48,48,48,48,32,54,53,53,51,53,32,102,13,10])
def Gl(b:List Nat)(d c:Nat):List Nat:=b++([116,114,97,105,108,101,114]++(b++([60,60,47,82,111,111,116,32,49,32]++(b++([48,32,82]++(b++([47,83,105,122,101,32]++(uD 18 (d+1)++([62,62]++(b++([115,116,97,114,116,120,114,101,102,10]++(b++(uD 18 c++[13,10,37,37,69,79,70])))))))))))))
def Gk(d:Nat)(c:List Nat)(b:List Nat×List Nat):List Nat:=b.1++(b.2++Gl c d b.1.length)
def Ih(c:List (List Nat))(b:List Nat)(d k:Int):List Nat:=Gk (G c) b (Ct b d k 0 c ([37,80,68,70,45,49,46,52,10]++b) (Gj (G c)))
end
def un(a:Nat):gJ a=ju a:=rfl
def zQ:∀(k:Nat) (a:List Nat),iC (DJ k 48++a)=iC a
 |0,a=>rfl
 |k+1,a=>by rw[eI];exact zQ k a
def gP(a:List Nat):Nat->List (List Nat)->List Nat
 |_,[]=>[]
 |b,d::c=>zV a d b++gP a (b+1) c
def oq(a:List Nat):Nat->List (List Nat)->Nat->List Nat
 |_,[],_=>[]
 |b,e::d,c=>c::oq a (b+1) d (c+(zV a e b).length)
def oJ{s:List Nat}(a:s≠[])(h:s.all pB=CD):lZ s:=⟨a,λb c=>by rw[bG]at h;exact h b c⟩
section
section
def jV.lit{b:Nat}{s r:List Nat}(h:pB b=CS):jV ((b::s)++r):=jV.cons h
def vY:∀{s r:List Nat},(∀b∈s,pB b=CD/\33<=b/\b<=126/\b≠35)->jV r->ld (s++r)=O (s,r)
 | [],r,_,a=>by
  cases r with
  |nil=>rfl
  |cons b d=>show ir 0 0 (b::d)=_;rw[ir,ak (a b d rfl)]
 |b::s,r,c,a=>by obtain⟨e,j,k,f⟩:=c b (bU ..);have h:ir 0 0 (s++r)=O (s,r):=vY (λi g=>c i (cu _ g)) a;show ir 0 0 (b::(s++r))=_;rw[ir,aj (by rw[e];simp),aj Y,aj f,h];rfl
section
variable{α:Type}{f:List Nat->Option (α×List Nat)}
def Dn{a:List Nat}(c:sH a)(b:Nat)(r:List Nat):jy f (b+1) (a++r)=jy f (b+1) r:=by rw[jy,jy,c.skip]
def xH{c:Nat}{r b d e:List Nat}{g:α}(h:ld r=O (b,d))(i:f d=O (g,e)):jy f (c+1) (47::r)=(jy f c e).map λa=>((b::a.1.1,g::a.1.2),a.2):=by rw[jy,pK bF bF,lS bF];simp only[];rw[show gh [47] (47::r)=O r from jG [47] r];simp only[];rw[h];simp only[];rw[i]
def zm(a:Nat)(r:List Nat):jy f (a+1) (62::62::r)=O (([],[]),r):=by rw[jy,pK bF bF,show gh [62,62] (62::62::r)=O r from jG [62,62] r]
end
def AK{d:Type}{a r:List Nat}{c:Int}(f:lZ a)(e:jV r)(b:jZ a=O c):iX d (a++r)=match g_ r with
  |some j=>O (ik d 9 c 0 [],j)
  |none=>O (ik d 2 c 0 [],r):=by
 unfold iX;rw[(sW f e).1,(sW f e).2,b];have g:a≠[110,117,108,108]:=by rintro rfl;cases b
 have h:a≠[102,97,108,115,101]:=by rintro rfl;cases b
 have i:a≠[116,114,117,101]:=by rintro rfl;cases b
 rw[aj g,aj h,aj i];try rfl
def CG{k:Nat}{a r d:List Nat}{c:Int}(b:lZ a)(e:jV r)(f:jZ a=O c)(h:g_ r=O d):gC (k+1) (a++r)=O (ik (VT k) 9 c 0 [],d):=by rw[qF b,AK b e f,h]
def Az{k:Nat}{s r:List Nat}{b:Int}(a:lZ s)(c:jV r)(d:jZ s=O b)(h:g_ r=N):gC (k+1) (s++r)=O (ik (VT k) 2 b 0 [],r):=by rw[qF a,AK a c d,h]
end
end
section
variable{w b:vz}
def vQ(a:Nat):Nat:=if a<10 then 48+a else 87+a
end
def C0{a:Nat}(h:a<256)(b:List Nat):jk ((48+a/64)::(48+a/8%8)::(48+a%8)::b)=O ([a],b):=by
 have c:oH ((48+a/64)::(48+a/8%8)::(48+a%8)::b)=CD:=by simp[oH];omega
 have d:oH ((48+a/8%8)::(48+a%8)::b)=CD:=by simp[oH];omega
 have e:oH ((48+a%8)::b)=CD:=by simp[oH];omega
 have f:iq ((48+a/64)::(48+a/8%8)::(48+a%8)::b)=N:=by unfold iq;rw[lS Y,lS Y,lS Y];rfl
 have g:pD ((48+a/64)::(48+a/8%8)::(48+a%8)::b)=(a,b):=by unfold pD;rw[lA,ak c,List.tail_cons,lA,ak d,List.tail_cons,lA,ak e,List.tail_cons,lA];simp only[List.headD_cons];congr 1;omega
 unfold jk;rw[f];simp only[];rw[ak c,g];simp only[];rw[ak Y]
def yq{b d:Nat}{a c e:List Nat}(h:jk a=O (c,e)):jN (b+1) d (92::a)=(jN b d e).map λf=>(c++f.1,f.2):=by rw[jN.eq_def];simp only[];rw[show iq (92::a)=N by unfold iq;rw[lS bF,lS bF,lS bF];rfl];simp only[];rw[ak trivial,h]
def zE:∀a,a<16->iG (vQ a)=O a/\wB (vQ a)=CS/\vQ a≠62/\vQ a≠60:=by decide
def G6{k:Nat}{a b c:List Nat}(h:lq a=O (b,c)):gC (k+1) (40::a)=O (ik (VT k) 5 0 0 b,c):=by unfold gC;rw[pK bF bF,lS bF,lS bF,lS bF,show gh [40] (40::a)=O a from jG [40] a];show(lq a).map (λd=>(ik (VT k) 5 0 0 d.1,d.2))=_;rw[h];rfl
def E4{k:Nat}{a b c:List Nat}(h:ld a=O (b,c)):gC (k+1) (47::a)=O (ik (VT k) 4 0 0 b,c):=by unfold gC;rw[pK bF bF,lS bF,lS bF,lS bF,lS bF,show gh [47] (47::a)=O a from jG [47] a];show(ld a).map (λd=>(ik (VT k) 4 0 0 d.1,d.2))=_;rw[h];rfl
def zv{f:Type}(b:f->List Nat)(c:Nat)(e:∀d,c<=(b d).length):∀a:List f,c*G a<=(a.flatMap b).length
 | []=>ag _
 |d::a=>by have:=zv b c e a;have:=e d;rw[cG,ab,ai,Nat.mul_add];omega
def gu(a:List Nat):Prop:=∀b∈a,b<256
def gu.lit{b:List Nat}(h:(b.all λa=>decide (a<256))=CD):gu b:=λa c=>by rw[bG]at h;simpa using h a c
def gu.app{a b:List Nat}(d:gu a)(e:gu b):gu (a++b):=λc f=>(aZ.1 f).elim (d c) (e c)
def gu.dig(a:Nat):gu (ju a):=λc b=>by have:=(qO a).2 c b;omega
def gu.flatMap{d:Type}{f:d->List Nat}{c:List d}(h:∀b∈c,gu (f b)):gu (c.flatMap f):=λx a=>by obtain⟨b,e,a⟩:=List.mem_flatMap.1 a;exact h b e x a
section
variable{w a:vz}
def Pk(b:List Nat)(i:∀l∈b,l<256)(m:G b<=1000000)(w:vz):∃c d,G b<=c/\c<=9223372036854775807/\(convert 9 23 (y7 (gj b))).run DG w=.ok (Z (O ⟨w.heap.size,0,N⟩) (G b) c) d/\wm w.heap.size w d/\qi d d.heap.size (O ⟨w.heap.size,0,N⟩) b/\w.heap.size<d.heap.size:=by have g:=run_bytes_of_string (P:= DG) w 9 23 5 (gj b) dC az eU;have f:=grownCap_ge w (gj b).size 0 5;have h:=fL w (gj b).size 0 5 (by rw[IL];unfold maxLen;omega);generalize grownCap w (gj b).size 0 5=c at *;rw[IL]at g f;refine⟨c,_,f,h,g,(ar _ _).drew.alloc (ag _) _,?_,cO⟩;intro k e;refine⟨w.heap.size,0,rfl,cO,?_⟩;have j:(w.drew.alloc (BV (bytesRow (gj b) c) 5 ((bytesRow (gj b) c).size,(bytesRow (gj b) c).size+1))).heap[w.heap.size]?=O (BV (bytesRow (gj b) c) 5 ((bytesRow (gj b) c).size,(bytesRow (gj b) c).size+1)):=bn w.drew _;rw[bZ,cb j];unfold bytesRow;rw[Array.getElem?_append_left (by simp[gj];exact e)];simp[gj,nth,af e];have:=i b[k] (cI e);omega
def Pl{g:Nat}{d:Option wT}{c:List Nat}{cap:Nat}(h:qi w g d c):(convert 23 9 (Z d (G c) cap)).run DG w=.ok (y7 (gj c)) w:=by
 rcases d_ (G c) with e|e
 ·have k:=cD.1 e;subst k;exact Pv d cap w
 ·obtain⟨b,m,rfl,_,_⟩:=h 0 e;refine IQ ⟨b,m,N⟩ cap c (λl j=>?_);obtain⟨n,o,i,_,f⟩:=h l j;cases i;unfold Addr.add;split;·next h=>subst h;simpa using f
  ·exact f
end
section
structure Bi(B m k n i h:Nat)(d:List Nat)(g:Nat)(f:List wg)(w:vz)(p a left e:Nat)(o:wg)(j:List Nat):Prop where
 rd:Rd B m n i h d g w p o j
 hbf:B<=k
 blk:w.heap[k]?=O (BV (A3 (O ⟨m,0,N⟩)::I .u8 a::I U left::I U e::f).toArray 167 (0,0))
 hh:a<256
 hl:left<=8
variable{B m k n i h:Nat}{d:List Nat}{g:Nat}{f:List wg}{w:vz}{p a left e:Nat}{o:wg}{j:List Nat}
def bL(d:List Nat)(p a left:Nat):List Bool:=gg left a++gH (d.drop p)
def Fl(B m k n i h:Nat)(d:List Nat)(g:Nat)(f:List wg)(w:vz)(b:List Bool)(e:Nat)(o:wg)(j:List Nat):Prop:=
 ∃p a left,Bi B m k n i h d g f w p a left e o j/\left<8/\bL d p a left=b
def TN(c:List Bool)(b:Bool):ix (c++[b])=ix c+b.toNat*2^(G c):=by
 induction c with
 |nil=>simp[ix]
 |cons q c l=>simp only[bH,ix,l,ai,c_];rw[Nat.mul_add,eO];congr 2;rw[dK 2,dS]
end
section
variable{B A z u r q:Nat}{d:List Nat}{n:Nat}{j:List wg}{w:vz}{p m left f:Nat}{C:wg}{t:List Nat}
def Cd(w:vz)(c g:Nat)(i b:List Nat):Prop:=
 (∀a,a<16->w.cell? ⟨c,g+a,N⟩=O (I U (nth i a:Nat))) /\
 ∃e h,w.cell? ⟨c,g+16,N⟩=O (Z (O ⟨e,0,N⟩) (G b) h)/\∀a,a<G b->w.cell? ⟨e,a,N⟩=O (I U (nth b a:Nat))
def qb(a:List Nat):Nat->Nat
 |0=>0
 |k+1=>qb a k+nth a (k+1)
def M_(c:List Nat)(a b:Nat)(h:a<=b):qb c a<=qb c b:=by
 induction b with
 |zero=>have:a=0:=Y;rw[this];exact ag _
 |succ b g=>
  rcases cW a (b+1)with e|e;·have:=g Y;simp only[qb];omega
  ·have:a=b+1:=Y;rw[this];exact ag _
def ri{k:IntKind}{a b:Int}(h:a=b):BX (I k a)=BX (I k b):=by rw[h]
def sV(a:Nat×Nat):wg:=Bc #[I U (a.1:Nat),I U (a.2:Nat)]
def Q5:∀a:Fin 286,265<=a.val->a.val≠285->wrap64 (3+wrap64 ((4+((a.val:Int)-257)%4)*2^((a.val-257)/4-1)))=((gQ a.val).1:Nat)/\((a.val:Int)-257)/4-1=((gQ a.val).2:Nat):=by decide +kernel
def Mq(a:Nat)(x:257<=a)(y:a<=285)(w:vz):wh DG 267 #[I U a] w λi l=>i=BX (sV (gQ a))/\∃k,l=w.alloc k:=by
 by_cases b:a=285
 ·subst b
  go_in
  go_wp2;refine aK (v:=sV (gQ 285)) (by simp[results,results267,go_sem,sV,gQ]) rfl ⟨rfl,?_⟩;exact⟨_,rfl⟩
 have e1:((a:Int)==285)=CS:=eS;by_cases g:a-257<8
 ·have h:(a:Int)-257<8:=Y
  go_in
  go_wp2;refine aK (v:=sV (gQ a)) ?_ rfl ⟨rfl,?_⟩;·simp[results,results267,go_sem,sV,gQ,b,g];omega
  ·exact⟨_,rfl⟩
 ·have h:¬(a:Int)-257<8:=Y;have o:0<=((a:Int)-257)/4-1:=Y;have s:((a:Int)-257)/4-1<6:=Y
  go_in
  go_wp2;obtain⟨c,e⟩:=Q5 ⟨a,Y⟩ (by show 265<=a;omega) b;simp only[]at c e;refine aK (v:=sV (gQ a)) ?_ rfl ⟨rfl,?_⟩;·simp[results,results267,go_sem,sV,c,e]
  ·exact⟨_,rfl⟩
def PN:∀a:Fin 30,4<=a.val->wrap64 (1+wrap64 ((2+(a.val:Int)%2)*2^(a.val/2-1)))=((gF a.val).1:Nat)/\(a.val:Int)/2-1=((gF a.val).2:Nat):=by decide +kernel
def Lm(a:Nat)(s:a<=29)(w:vz):wh DG 269 #[I U a] w λh k=>h=BX (sV (gF a))/\∃i,k=w.alloc i:=by
 by_cases e:a<4
 ·have g:(a:Int)<4:=Y
  go_in
  go_wp2;refine aK (v:=sV (gF a)) ?_ rfl ⟨rfl,?_⟩;·simp[results,results269,go_sem,sV,gF,e]
  ·exact⟨_,rfl⟩
 ·have g:¬(a:Int)<4:=Y;have l:0<=(a:Int)/2-1:=Y;have o:(a:Int)/2-1<14:=Y
  go_in
  go_wp2;obtain⟨b,c⟩:=PN ⟨a,Y⟩ (by show 4<=a;omega);simp only[]at b c;refine aK (v:=sV (gF a)) ?_ rfl ⟨rfl,?_⟩;·simp[results,results269,go_sem,sV,b,c]
  ·exact⟨_,rfl⟩
def Mp:∀a:Fin 286,257<=a.val->(gQ a.val).2<=5/\(gQ a.val).1<=258:=by decide +kernel
def PH:∀a:Fin 30,(gF a.val).2<=13/\(gF a.val).1<=24577/\1<=(gF a.val).1:=by decide +kernel
def bi(a b:Nat)(c:a<256)(e:b<256)(h:jz a=jz b):a=b:=by rw[<-qZ a c,<-qZ b e,h]
def KY:∀(c b:List Nat),G c=G b->(∀a,a<G c->nth c a<256)->(∀a,a<G b->nth b a<256)->gH c=gH b->c=b
 | [],[],_,_,_,_=>rfl
 | [],_::_,h,_,_,_=>by simp at h
 |_::_,[],h,_,_,_=>by simp at h
 |l::c,o::b,s,g,i,h=>by rw[nx,nx]at h;have k:=List.append_inj h rfl;have e1:l=o:=bi l o (g 0 cO) (i 0 cO) k.1;have e2:c=b:=KY c b (by simpa using s) (λa e=>g (a+1) (by simpa using e)) (λa e=>i (a+1) (by simpa using e)) k.2;rw[e1,e2]
def I4(b c a:Nat):(⟨b,c,N⟩:wT).add a=⟨b,c+a,N⟩:=by unfold Addr.add;split<;>simp_all
def jI(a:List Nat):List wg:=a.map λb:Nat=>I U b
def mN(w:vz)(g:Nat)(c:List Nat):Prop:=∃b e,w.heap[g]?=O (BV b 3 e)/\∀a,a<G c->b[a]?=O (I U (nth c a:Nat))
def mN.cell{e:Nat}{b:List Nat}(h:mN w e b)(a:Nat)(k:a<G b):w.cell? ⟨e,a,N⟩=O (I U (nth b a:Nat)):=by obtain⟨c,l,g,i⟩:=h;rw[cb g];exact i a k
def Le:G nG=16:=by decide +kernel
def F3:G nE=16:=by decide +kernel
def ig(b:List Nat)(a:Nat)(h:a<G b):(jI b)[a]?=O (I U (nth b a:Nat)):=by simp[jI,nth,h]
end
def Bo(b:List Nat)(a c:Nat)(h:a<G b):nth (b.set a c) a=c:=by simp[nth,h]
def Bm(c:List Nat)(b a d:Nat)(h:b≠a):nth (c.set b d) a=nth c a:=by simp[nth,List.getElem?_set_ne h]
def Bk(c b:List Nat)(f:G c=G b)(h:∀a,a<G c->nth c a=nth b a):c=b:=by apply List.ext_getElem f;intro a d e;have:=h a d;simpa[nth,d,e]using this
def nr(b a c:Nat)(h:a<b):nth (DJ b c) a=c:=by simp[nth,h]
def cnt(b:List Nat):List Nat:=(List.range 16).map λa=>b.count a
def Fr(a:List Nat):(cnt a).length=16:=by simp[cnt]
def nc(b:List Nat)(a:Nat)(h:a<16):nth (cnt b) a=b.count a:=by simp[nth,cnt,h]
def Po(c:List Nat)(a:Nat)(d:a<16):cnt (c++[a])=(cnt c).set a (nth (cnt c) a+1):=by
 refine Bk _ _ (by simp[Fr]) ?_;intro e b;rw[Fr]at b;rw[nc _ _ b,eG];by_cases h:a=e;·subst h;rw[Bo _ _ _ (by rw[Fr];exact d),nc _ _ d];simp
 ·rw[Bm _ _ _ _ h,nc _ _ b];simp[h]
def cz(l:List Nat):List Nat:=(cnt l).set 0 0
def xx(l:List Nat):(cz l).length=16:=by simp[cz,Fr]
def JK(a:List Nat):nth (cz a) 0=0:=Bo _ _ _ (by rw[Fr];omega)
def Fy(l:List Nat)(a:Nat)(b:0<a)(h:a<16):nth (cz l) a=l.count a:=by rw[cz,Bm _ _ _ _ Y,nc _ _ h]
def pre(a:List Nat)(b:Nat):Nat:=(a.take b).sum
def Ei(a:List Nat)(b:Nat)(h:b<G a):pre a (b+1)=pre a b+nth a b:=by unfold pre;rw[bN h,List.sum_append];simp[nth,h]
def Ix(c:List Nat)(a b:Nat)(h:a<=b):pre c a<=pre c b:=by
 induction b with
 |zero=>obtain rfl:a=0:=Y;exact ag _
 |succ b f=>
  rcases cW a (b+1)with e|e
  ·refine aJ (f Y) ?_;rcases cW b (G c) with d|d;·rw[Ei _ _ d];omega
   ·unfold pre;rw[aP d,aP Y];exact ag _
  ·obtain rfl:a=b+1:=Y;exact ag _
def JR(a:List Nat)(h:G a=16):pre a 16=a.sum:=by unfold pre;rw[aP Y]
def pl(b:List Nat)(c:Nat):List Nat:=(List.range 16).map λa=>if a<=c then pre b a else 0
def Eh(a:List Nat)(b:Nat):(pl a b).length=16:=by simp[pl]
def D4(b:List Nat)(c a:Nat)(h:a<16):nth (pl b c) a=if a<=c then pre b a else 0:=by simp[nth,pl,h]
def Sa(c:List Nat):pl c 0=DJ 16 0:=by
 refine Bk _ _ (by simp[Eh]) ?_;intro b a;rw[Eh]at a;rw[D4 _ _ _ a];by_cases h:b<=0
 ·obtain rfl:b=0:=Y;simp[pre,nth]
 ·rw[aj h,nr _ _ _ a]
def Sg(b:List Nat)(a:Nat)(g:a<15)(f:G b=16):pl b (a+1)=(pl b a).set (a+1) (nth (pl b a) a+nth b a):=by
 refine Bk _ _ (by simp[Eh]) ?_;intro e c;rw[Eh]at c;rw[D4 _ _ _ c,D4 _ _ _ Y,ak (ag a)];by_cases h:a+1=e
 ·subst h;rw[Bo _ _ _ (by rw[Eh];omega),ak (ag _),Ei _ _ Y]
 ·rw[Bm _ _ _ _ h,D4 _ _ _ c];by_cases d:e<=a;·rw[ak d,ak Y]
  ·rw[aj d,aj Y]
def fT(a:List Nat):Nat->List Nat×List Nat
 |0=>(pl (cz a) 15,DJ (cz a).sum 0)
 |k+1=>if nth a k=0 then fT a k else((fT a k).1.set (nth a k) (nth (fT a k).1 (nth a k)+1),(fT a k).2.set (nth (fT a k).1 (nth a k)) k)
def F6(a:List Nat)(l:∀m,m<G a->nth a m<16):∀k,k<=G a ->(fT a k).1.length=16/\(fT a k).2.length=(cz a).sum/\∀b,0<b->b<16->nth (fT a k).1 b=pre (cz a) b+(a.take k).count b
 |0,_=>⟨Eh _ _,by simp[fT],λb d c=>by simp[fT,D4 _ _ _ c,show b<=15 by omega]⟩
 |k+1,o=>by
  obtain⟨i,j,g⟩:=F6 a l k Y;have p:=l k Y;have f:a.take (k+1)=a.take k++[nth a k]:=by rw[bN Y];simp[nth,show k<G a by omega]
  unfold fT;by_cases e:nth a k=0
  ·rw[ak e];refine⟨i,j,λb d c=>?_⟩;have n:¬0=b:=Y;rw[g b d c,f,eG,e];simp[n]
  ·rw[aj e];refine⟨by simp[i],by simp[j],λb d c=>?_⟩;by_cases h:nth a k=b
   ·subst h;rw[Bo _ _ _ Y,g _ d c,f,eG];simp;omega
   ·rw[Bm _ _ _ _ h,g b d c,f,eG];simp[h]
def Lu(a:List Nat)(e:∀f,f<G a->nth a f<16)(k:Nat)(b:k<G a)(d:0<nth a k):nth (fT a k).1 (nth a k)<(cz a).sum:=by
 obtain⟨_,_,h⟩:=F6 a e k Y;have c:=e k b;rw[h _ d c];have g:a=a.take k++(nth a k::a.drop (k+1)):=by
  have:nth a k=a[k]:=by simp[nth,b]
  rw[this,<-b_ b,cQ]
 have m:(a.take k).count (nth a k)<a.count (nth a k):=by have i:=cX (List.count (nth a k)) g;rw[eG,List.count_cons_self]at i;omega
 have j:=Ei (cz a) (nth a k) (by rw[xx];exact c);rw[Fy _ _ d c]at j;have l:=Ix (cz a) (nth a k+1) 16 Y;rw[JR _ (xx a)]at l;omega
def PC(b:List Nat)(k:∀a,a<G b->nth b a<16):(cz b).sum<=16*G b:=by
 have:∀c:List Nat,(∀a,a<G c->nth c a<=G b)->c.sum<=G c*G b:=by
  intro c;induction c with
  |nil=>simp
  |cons e c g=>intro h;have i:=g (λa d=>h (a+1) (by simpa using d));have j:e<=G b:=h 0 cO;simp only[cT,ai,Nat.add_mul,Nat.one_mul];omega
 have h:=this (cz b) (λa d=>by
  rw[xx]at d;by_cases f:a=0;·subst f;rw[JK];omega
  ·rw[Fy _ _ Y d];exact List.count_le_length)
 rw[xx]at h;exact h
def Co:cz j_=nG/\(fT j_ 288).2=mL/\cz j9=nE/\(fT j9 32).2=mK:=by refine⟨by decide +kernel,by decide +kernel,by decide +kernel,by decide +kernel⟩
section
variable{w:vz}
def tH:Obj:=BV (jI (DJ 16 0)++[Z N 0 0]).toArray 162 (0,0)
structure Cf(w:vz)(wr:vz)(c:List Nat):Prop where
 below:wm w.heap.size w wr
 size:wr.heap.size=w.heap.size+2
 res:wr.heap[w.heap.size]?=O tH
 cod:wr.heap[w.heap.size+1]?=O (BV (jI c++[Z N 0 0]).toArray 162 (0,0))
 len:G c=16
def Cf.cell{wr:vz}{c:List Nat}(h:Cf w wr c)(a:Nat)(b:a<16):wr.cell? ⟨w.heap.size+1,a,N⟩=O (I U (nth c a:Nat)):=by rw[cb h.cod];have:=h.len;simp[jI,nth,aR,this,b]
def Cf.set{wr:vz}{a:List Nat}(h:Cf w wr a)(i x:Nat)(b:i<16):Cf w (wr.setCell ⟨w.heap.size+1,i,N⟩ (I U x)) (a.set i x):=by
 have c:=h.len;refine⟨h.below.setCell (by show w.heap.size<=w.heap.size+1;omega) _,by simp[h.size],?_,?_,by simp[h.len]⟩;·rw[lK _ Y];exact h.res
 ·rw[nu _ h.cod];have:i<(jI a).length:=by simp[jI,c,b]
  simp only[List.setIfInBounds_toArray,List.set_append_left _ _ this];simp[jI,List.map_set]
structure tU(w:vz)(wr:vz)(c P:List Nat)(v:wg):Prop where
 below:wm w.heap.size w wr
 size:w.heap.size+3<=wr.heap.size
 res:wr.heap[w.heap.size]?=O tH
 cod:wr.heap[w.heap.size+1]?=O (BV (jI c++[v]).toArray 162 (0,0))
 plc:wr.heap[w.heap.size+2]?=O (BV (jI P).toArray 160 (0,0))
 len:G c=16
 lep:G P=16
def tU.cell{wr:vz}{c b:List Nat}{v:wg}(h:tU w wr c b v)(a:Nat)(d:a<16):wr.cell? ⟨w.heap.size+1,a,N⟩=O (I U (nth c a:Nat)):=by rw[cb h.cod];have:=h.len;simp[jI,nth,aR,this,d]
def tU.cell16{wr:vz}{c b:List Nat}{a:wg}(h:tU w wr c b a):wr.cell? ⟨w.heap.size+1,16,N⟩=O a:=by rw[cb h.cod];have:=h.len;simp[jI,this]
def tU.place{wr:vz}{c b:List Nat}{e:wg}(h:tU w wr c b e)(a:Nat)(d:a<16):wr.cell? ⟨w.heap.size+2,a,N⟩=O (I U (nth b a:Nat)):=by rw[cb h.plc];have:=h.lep;simp[jI,nth,this,d]
def tU.drew{wr:vz}{a P:List Nat}{v:wg}(h:tU w wr a P v):tU w wr.drew a P v:=⟨h.below.drew,h.size,h.res,h.cod,h.plc,h.len,h.lep⟩
def tU.setP{wr:vz}{c b:List Nat}{d:wg}(h:tU w wr c b d)(a e:Nat)(f:a<16):tU w (wr.setCell ⟨w.heap.size+2,a,N⟩ (I U e)) c (b.set a e) d:=by
 refine⟨h.below.setCell (by show w.heap.size<=w.heap.size+2;omega) _,by simp[h.size],?_,?_,?_,h.len,by simp[h.lep]⟩;·rw[lK _ Y];exact h.res
 ·rw[lK _ Y];exact h.cod
 ·rw[nu _ h.plc];simp[jI,List.map_set]
def tU.setV{wr:vz}{a b:List Nat}{e:wg}(h:tU w wr a b e)(c:wg):tU w (wr.setCell ⟨w.heap.size+1,16,N⟩ c) a b c:=by
 have d:=h.len;refine⟨h.below.setCell (by show w.heap.size<=w.heap.size+1;omega) _,by simp[h.size],?_,?_,?_,h.len,h.lep⟩;·rw[lK _ Y];exact h.res
 ·rw[nu _ h.cod];have:(jI a).length=16:=by simp[jI,d]
  simp only[List.setIfInBounds_toArray];rw[fO _ _ Y,this];rfl
 ·rw[lK _ Y];exact h.plc
def tU.other{wr:vz}{c a:List Nat}{d:wg}(h:tU w wr c a d)(b:wT)(e:wg)(f:w.heap.size+3<=b.block):tU w (wr.setCell b e) c a d:=by
 refine⟨h.below.setCell Y _,by simp[h.size],?_,?_,?_,h.len,h.lep⟩;·rw[eB _ _ _ _ Y];exact h.res
 ·rw[eB _ _ _ _ Y];exact h.cod
 ·rw[eB _ _ _ _ Y];exact h.plc
def tU.grown{wr d:vz}{b P:List Nat}{c:wg}(h:tU w wr b P c)(a:wr.grownBy d N):tU w d b P c:=by
 have e:=h.size;refine⟨h.below.grown a Y (λk h=>by cases h),by have:=a.size;omega,?_,?_,?_,h.len,h.lep⟩;·rw[a.block _ Y cO];exact h.res
 ·rw[a.block _ Y cO];exact h.cod
 ·rw[a.block _ Y cO];exact h.plc
def PB{wr:vz}{b:List Nat}(c:Cf w wr (cnt b)):tU w ((wr.setCell ⟨w.heap.size+1,0,N⟩ (I U 0)).alloc (BV (jI (DJ 16 0)).toArray 160 (0,0))) (cz b) (pl (cz b) 0) (Z N 0 0):=by have a:Cf w (wr.setCell ⟨w.heap.size+1,0,N⟩ (I U 0)) (cz b):=c.set 0 0 Y;refine⟨a.below.alloc (by rw[a.size];omega) _,by rw[aV,a.size];omega,nt _ a.res,nt _ a.cod,?_,xx b,Eh _ _⟩;rw[Sa];have:=bn (wr.setCell ⟨w.heap.size+1,0,N⟩ (I U 0)) (BV (jI (DJ 16 0)).toArray 160 (0,0));rw[a.size]at this;exact this
def J3{c:vz}{d b a:Nat}(h:c.ownsRow d 3 1 (Z (O ⟨b,0,N⟩) a a) a (madeCells (Value.cells (I U 0)) (a*1)).toList):c.heap[b]?=O (BV (jI (DJ a 0)).toArray 3 (0,0)):=by
 rcases h.2 with⟨g,_⟩|⟨n,m,e,l,_,j,_,_,i,k⟩;·cases g
 cases l;have f:e.toList=(madeCells (Value.cells (I U 0)) (a*1)).toList:=by rw[<-k,aP (by rw[dH,i];omega)]
 have e2:(madeCells (Value.cells (I U 0)) (a*1)).toList=jI (DJ a 0):=by show(madeCells #[I U 0] (a*1)).toList=_;rw[toList_madeCells_one];simp[jI]
 rw[j,<-e2,<-f]
def BP{wr:vz}{b:Nat}(h:wr.heap[b]?=O tH):wr.there b 0 17:=by intro d c;have a:wr.heap[b]?=O (BV (jI (DJ 16 0)++[Z N 0 0]).toArray 162 (0,0)):=h;refine⟨?_,pA a⟩;rw[cb a,ch,af (by simp[jI];omega)];rfl
def Gv(b:List Nat)(a:Option wT){d c:Nat}:(jI b++[Z a d c]).toArray.all (·.oneCell')=CD:=by simp[jI,Value.oneCell']
def infoInt:(Tryz.prog.info? 3).map (λa=>(a.zero,a.size,a.bytes))=O (O (I U 0),1,8):=by kernel_rfl
def Lh(q s ao:Nat)(a:List Nat)(D:∀e,e<G a->nth a e<16)(hn:G a<=320)(X:q<w.heap.size)(V:∀e,e<G a->w.cell? ⟨q,s+e,N⟩=O (I U (nth a e:Nat))):wh DG 219 #[Z (O ⟨q,s,N⟩) (G a) ao] w λn w'=>∃A,n=BX (Bc (jI (cz a)++[Z (O ⟨A,0,N⟩) (cz a).sum (cz a).sum]).toArray)/\mN w' A (fT a (G a)).2/\wm w.heap.size w w'/\w.heap.size<=A:=by
 go_in
 go_wp2;go_loopw [12] (λe wr=>∃k:Nat,k<=G a/\e=I U k/\Cf w wr (cnt (a.take k))) (λe _=>G a-(intOf e).toNat)
 case atStart=>
  refine⟨0,aw _,rfl,⟨((ar _ _).alloc (ag _) _).alloc cO _,cO,?_,?_,Fr _⟩⟩;·exact nt _ (bn w tH)
  ·have:=bn (w.alloc tH) (BV (jI (cnt (a.take 0))++[Z N 0 0]).toArray 162 (0,0));have n:(w.alloc tH).heap.size=w.heap.size+1:=cO;rw[n]at this;exact this
 case round=>
  obtain⟨k,hk,rfl,c⟩:=hrel;by_cases f:k<G a
  ·have j:=D k f;have Q:=(c.below.cell (p:=⟨q,s+k,N⟩) X).t (V k f);have c2:=c.cell (nth a k) j;have f2:wr.frozen? ⟨w.heap.size+1,nth a k,N⟩=CS:=pA c.cod;have W:=nc (a.take k) (nth a k) j;have b4:nth (cnt (a.take k)) (nth a k)<=320:=by rw[W];refine aJ List.count_le_length ?_;rw[ax];omega
   have HS:=H (Po (a.take k) (nth a k) j);have HT:wt (a.take (k+1)=a.take k++[nth a k]):=by unfold Hid;rw[bN f];simp[nth,f]
   clear W;generalize hC:cnt (a.take k)=aa at *;clear hC;generalize T:nth a k=h at *;clear T;have bm:(h:Int)<16:=Y;go_wp2;go_roundw
   case rel=>refine⟨k+1,Y,by go_num,?_⟩;rw[HT.o,HS.o];have:=c.set h (nth aa h+1) j;simpa using this
   case measure=>exact eT
  ·obtain rfl:k=G a:=Y;rw[dE]at c;have c0:=c.cell 0 Y;have f0:=lQ 0 c.cod;have b9:=c.size;have bc:=PC a D;have bb:=PB c;obtain⟨i0,C,br,bs,bv⟩:=bR infoInt;obtain⟨wo,bf⟩:∃wo:vz,wo=wr:=⟨_,rfl⟩;subst bf;have x:=H D;have HC:=H V;have l:=H (And.intro hn (And.intro X bc));go_wp2;go_loopw [7] (λL wr=>∃k:Nat,k<=15/\L=I U ((k:Int)+1)/\tU w wr (cz a) (pl (cz a) k) (Z N 0 0)) (λL _=>16-(intOf L).toNat)
   case atStart=>exact⟨0,Y,rfl,bb⟩
   case round=>
    obtain⟨k,hk,rfl,c⟩:=hrel;by_cases f:k<15
    ·have b8:(k:Int)+1<=15:=Y;have p0:=c.place k Y;have p1:=c.place (k+1) Y;have q0:=c.cell k Y;have f1:wr.frozen? ⟨w.heap.size+2,k+1,N⟩=CS:=pA c.plc;have a1:=Ix (cz a) k 16 Y;rw[JR _ (xx a)]at a1;have b2:nth (pl (cz a) k) k<=5120:=by rw[D4 _ _ _ Y,ak (ag _)];have:=l.o;omega
     have b3:nth (cz a) k<=320:=by
      by_cases B:k=0;·subst B;rw[JK];omega
      ·rw[Fy _ _ Y Y];exact aJ List.count_le_length l.o.1
     have m:=H (Sg (cz a) k f (xx a));generalize hA:nth (pl (cz a) k) k=M at *;generalize hB:nth (cz a) k=P at *;generalize hD:nth (pl (cz a) k) (k+1)=Dd at *;go_wp2_with fail;go_region;go_wp2;go_roundw
     case rel=>refine⟨k+1,Y,by go_num,?_⟩;rw[m.o];have:=(c.setP (k+1) (M+P) Y).drew;simpa using this
     case measure=>exact eT
    ·obtain rfl:k=15:=Y;have p0:=c.place 15 Y;have q0:=c.cell 15 Y;have b1:nth (pl (cz a) 15) 15+nth (cz a) 15=(cz a).sum:=by rw[D4 _ _ _ Y,ak (ag _),<-Ei _ _ (by rw[xx];omega),JR _ (xx a)]
     have hN:(cz a).sum<=5120:=by have:=l.o;omega
     have S:=c.size;obtain⟨d,bh⟩:∃d:vz,d=wr:=⟨_,rfl⟩;subst bh;have J:nth (pl (cz a) 15) 15+nth (cz a) 15<=(cz a).sum:=Y;have K:(cz a).sum<=nth (pl (cz a) 15) 15+nth (cz a) 15:=Y;generalize hA:nth (pl (cz a) 15) 15=M at p0 J K;generalize hB:nth (cz a) 15=P at q0 J K;generalize a0:(cz a).sum=b at hN J K;have y:=H a0;go_wp2_with (at_make;refine wpList_make_full _ rfl _ _ 52 rfl (w.heap.size+3) 3 i0 (I U 0) 1 dF C br bs U U _ _ b rfl rfl Y Y (by rw[bv];omega) lB S ?_;intro t a8 a4;have z:=c.grown a4;have cc:=z.cell16;have b0:t.frozen? ⟨w.heap.size+1,16,N⟩=CS:=pA z.cod;have i:=J3 a8);have st:=z.setV (Z (O ⟨d.heap.size,0,N⟩) b b);have bw:(t.setCell ⟨w.heap.size+1,16,N⟩ (Z (O ⟨d.heap.size,0,N⟩) b b)).heap[d.heap.size]?=O (BV (jI (DJ b 0)).toArray 3 (0,0)):=by rw[lK _ Y];exact i
     have ad:wt (tU w (t.setCell ⟨w.heap.size+1,16,N⟩ (Z (O ⟨d.heap.size,0,N⟩) b b)) (cz a) (fT a 0).1 (Z (O ⟨d.heap.size,0,N⟩) b b)/\(t.setCell ⟨w.heap.size+1,16,N⟩ (Z (O ⟨d.heap.size,0,N⟩) b b)).heap[d.heap.size]?=O (BV (jI (fT a 0).2).toArray 3 (0,0))):=⟨st,by unfold fT;rw[y.o];exact bw⟩;go_loopw [52] (λe wr=>∃k:Nat,k<=G a/\e=I U k/\wt (tU w wr (cz a) (fT a k).1 (Z (O ⟨d.heap.size,0,N⟩) b b)/\wr.heap[d.heap.size]?=O (BV (jI (fT a k).2).toArray 3 (0,0)))) (λe _=>G a-(intOf e).toNat)
     case atStart=>exact⟨0,aw _,rfl,ad⟩
     case round=>
      obtain⟨k,hk,rfl,HH⟩:=hrel;obtain⟨c,i⟩:=HH.o;have b5:k<=320:=by have:=l.o;omega
      have b6:(k:Int)<=320:=Y;by_cases f:k<G a
      ·have j:=x.o k f;have Q:=(c.below.cell (p:=⟨q,s+k,N⟩) l.o.2.1).t (HC.o k f);by_cases B:0<nth a k
       ·have a6:=Lu a x.o k f B;obtain⟨_,i2,_⟩:=F6 a x.o k Y;rw[y.o]at a6 i2;have c2:=c.place (nth a k) j;have f2:wr.frozen? ⟨w.heap.size+2,nth a k,N⟩=CS:=pA c.plc;have c3:=c.cell16;have R:∃bx,wr.cell? ⟨d.heap.size,nth (fT a k).1 (nth a k),N⟩=O bx:=by
         rw[cb i];have:nth (fT a k).1 (nth a k)<(jI (fT a k).2).length:=by simp only[jI,aq];omega
         exact⟨_,by rw[ch,af this]⟩
        obtain⟨u4,R⟩:=R;have f4:wr.frozen? ⟨d.heap.size,nth (fT a k).1 (nth a k),N⟩=CS:=pA i;have F:fT a (k+1)=((fT a k).1.set (nth a k) (nth (fT a k).1 (nth a k)+1),(fT a k).2.set (nth (fT a k).1 (nth a k)) k):=by
         conv=>lhs;unfold fT
         rw[aj Y]
        have m:=H F;have r:=H (And.intro c i);generalize hP:nth (fT a k).1 (nth a k)=g at *;generalize T:nth a k=h at *;have bm:(h:Int)<16:=Y;have b7:(g:Int)<(b:Int):=Y;go_wp2_with fail;go_region;go_wp2;go_roundw
        case rel=>
         refine⟨k+1,Y,by go_num,?_⟩;rw[m.o];have h1:=(((r.o.1).other ⟨d.heap.size,g,N⟩ (I U k) S).setP h (g+1) j).drew;have h2:((wr.setCell ⟨d.heap.size,g,N⟩ (I U k)).setCell ⟨w.heap.size+2,h,N⟩ (I U (g+1:Nat))).drew.heap[d.heap.size]?=O (BV (jI ((fT a k).2.set g k)).toArray 3 (0,0)):=by show((wr.setCell ⟨d.heap.size,g,N⟩ (I U k)).setCell ⟨w.heap.size+2,h,N⟩ (I U (g+1:Nat))).heap[d.heap.size]?=_;rw[lK _ Y,nu _ r.o.2];simp[jI,List.map_set]
         have:=And.intro h1 h2;simpa[wt]using this
        case measure=>exact eT
       ·have hz:nth a k=0:=Y;have F:fT a (k+1)=fT a k:=by
         conv=>lhs;unfold fT
         rw[ak hz]
        have m:=H F;have r:=H (And.intro c i);rw[hz]at Q;go_wp2;go_roundw
        case rel=>refine⟨k+1,Y,by go_num,?_⟩;rw[m.o];exact r.o
        case measure=>exact eT
      ·obtain rfl:k=G a:=Y;have a9:wr.rangeAt (w.heap.size+1) 0 (jI (cz a)++[Z (O ⟨d.heap.size,0,N⟩) b b]):=by intro ca bz hv;rw[bZ,cb c.cod];simpa using hv
       have E:(jI (cz a)++[Z (O ⟨d.heap.size,0,N⟩) b b]).length=17:=by simp[jI,xx]
       have a5:(Tryz.prog.info? 162).map (·.size)=O (jI (cz a)++[Z (O ⟨d.heap.size,0,N⟩) b b]).length:=by rw[E];kernel_rfl
       have bd:wr.there w.heap.size 0 (jI (cz a)++[Z (O ⟨d.heap.size,0,N⟩) b b]).toArray.size:=by have n:=List.size_toArray.t E;rw[n];exact BP c.res
       have a7:(jI (cz a)++[Z (O ⟨d.heap.size,0,N⟩) b b]).toArray.all (·.oneCell')=CD:=Gv _ _;have a3:=
        Ep c.res (by rw[E];rfl)
       have ba:mN (wr.setCells w.heap.size 0 (jI (cz a)++[Z (O ⟨d.heap.size,0,N⟩) b b])) d.heap.size (fT a (G a)).2:=by refine⟨_,_,by rw[yM _ Y];exact i,λe C=>?_⟩;rw[ch];exact ig _ _ C
       have a2:wm w.heap.size w (wr.setCells w.heap.size 0 (jI (cz a)++[Z (O ⟨d.heap.size,0,N⟩) b b])):=xi _ _ (ag _) _ _ _ _ c.below;have u:=H (And.intro a3 (And.intro ba a2));have v:=H a5;have ac:=H a9;have al:=H bd;go_wp2_with (first|(refine wpList_load_mid rfl 162 (.tmp 3) rfl (w.heap.size+1) 0 rfl _ _ ac.o underlying162 rfl v.o ?_)|(refine dt rfl 162 (.tmp 2) (.tmp 72) rfl w.heap.size 0 _ rfl rfl al.o (by rw[dN];exact v.o) a7 ?_));have bt:(Tryz.prog.info? 162).map (·.size)=O (jI (cz a)++[Z (O ⟨d.heap.size,0,N⟩) b b]).toArray.size:=by rw[dN];exact v.o
       refine aK (v:=Bc (jI (cz a)++[Z (O ⟨d.heap.size,0,N⟩) b b]).toArray) ?_ rfl ⟨d.heap.size,by rw[y.o],u.o.2.1,u.o.2.2,Y⟩;exact bk results219 _ _ w.heap.size 162 _ _ _ rfl u.o.1 underlying162 rfl bt
end
