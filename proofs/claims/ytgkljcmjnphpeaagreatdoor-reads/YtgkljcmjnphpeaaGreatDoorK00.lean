import Derived.Test.YtgkljcmjnphpeaaGreatDoorProg
import Derived.WalkLawsBesides
import Derived.BigQuiet
import Derived.Deep.Light
import Derived.Deep.RegionHeld
import Derived.Deep.RegionLaw
import Derived.StillTailTactics
import Derived.Deep.AppendSrc
set_option linter.unusedVariables false
set_option linter.unusedSimpArgs false
set_option maxHeartbeats 2000000
set_option maxRecDepth 100000
set_option linter.defProp false
def Eq.t:=@Eq.trans
def Eq.s:=@Eq.symm
def Ne.s:=@Ne.symm
def Iff.t:=@Iff.trans
def Iff.s:=@Iff.symm
def Go.Calls.m:=@Go.Calls.mono
def Go.RowKit.Below.t:=@Go.RowKit.Below.trans
def Go.RowKit.Below.m:=@Go.RowKit.Below.mono
def List.IsSuffix.t:=@List.IsSuffix.trans
def Go.CallsD.m:=@Go.CallsD.mono
open List renaming length->G
open Go renaming Value->GI,World->Gr,Calls->K8,Addr->L2,Ending->MB,Act->MN
open Go.Value renaming int->I,pointer->M2,string->MV,agg->N1,bool->OV,tuple->OW,slice->Z
open Go.RowKit renaming Hid->L1,Below->LT
open Option renaming none->N,some->O
open Bool renaming false->P2,true->PV
open Or renaming inl->P3,inr->P4
open Go.Obj renaming cells->Pp
open Go.Ending renaming returned->Ps
open Go.Proofs.Tryz renaming prog->Qe
open List renaming replicate->Qf
open Go.IntKind renaming i64->U
open Go.Proofs.Tryz
namespace Go
def Y{p:Prop}(h:p:=by omega):p:=h
def aG{p:Prop}(h:p:=by kernel_rfl):p:=h
def cO{p:Prop}(h:p:=by decide):p:=h
def eA{p:Prop}(h:p:=by simp):p:=h
def eB{p:Prop}(h:p:=by simp;omega):p:=h
def eC{p:Prop}(h:p:=by rw[nX];omega):p:=h
def eS{p:Prop}(h:p:=by intro c C a;simp at a):p:=h
def hJ{p:Prop}(h:p:=by have:=x.o;omega):p:=h
def lB{p:Prop}(h:p:=by rw[au];omega):p:=h
def oi{p:Prop}(h:p:=by unfold maxLen;omega):p:=h
def oj{p:Prop}(h:p:=by rw[m.o];omega):p:=h
def oT{p:Prop}(h:p:=by simpa using h):p:=h
def pf{p:Prop}(h:p:=by simp only[aj,aI];omega):p:=h
def pg{p:Prop}(h:p:=by simp[gP]):p:=h
def pt{p:Prop}(h:p:=by rw[ay];omega):p:=h
def pw{p:Prop}(h:p:=by first|decide|omega):p:=h
def pI{p:Prop}(h:p:=by simp only[gP];omega):p:=h
def p7{p:Prop}(h:p:=by show w.heap.size<_;omega):p:=h
def qq{p:Prop}(h:p:=by have:=HN.o;omega):p:=h
def sk{p:Prop}(h:p:=by show bs<f.heap.size;omega):p:=h
def ts{p:Prop}(h:p:=by have:=e.o;omega):p:=h
def tx{p:Prop}(h:p:=by rw[m.o];exact S):p:=h
def u0{p:Prop}(h:p:=by simpa using n):p:=h
def vf{p:Prop}(h:p:=by have:=u.o;omega):p:=h
def vj{p:Prop}(h:p:=by simpa using e):p:=h
def vx{p:Prop}(h:p:=by have:=h.below.size;omega):p:=h
def vy{p:Prop}(h:p:=by have:=F.o;omega):p:=h
def wd{p:Prop}(h:p:=by have:=f.o;omega):p:=h
def wf{p:Prop}(h:p:=by simp[results,results76,go_sem]):p:=h
def wg{p:Prop}(h:p:=by intro c l e;simp at e):p:=h
def wh{p:Prop}(h:p:=by rw[<-h.len];exact c):p:=h
def wl{p:Prop}(h:p:=by rw[Ed hL];decide):p:=h
def wS{p:Prop}(h:p:=by rw[xL hL];decide):p:=h
def xa{p:Prop}(h:p:=by have:=s.o;omega):p:=h
def xc{p:Prop}(h:p:=by have:=i.o;omega):p:=h
def xt{p:Prop}(h:p:=by have:=h.pos;omega):p:=h
def x6{p:Prop}(h:p:=by intro c T x;simp[i_]at x):p:=h
def A3{p:Prop}(h:p:=by simp[results,results75,go_sem]):p:=h
def Bc{p:Prop}(h:p:=by rw[<-tv.1];exact c):p:=h
def BG{p:Prop}(h:p:=by rw[u.o];exact C):p:=h
def BR{p:Prop}(h:p:=by show ¬(w.heap.size+5<=w.heap.size+3);omega):p:=h
def BX{p:Prop}(h:p:=by rw[g.o];exact t):p:=h
def B8{p:Prop}(h:p:=by simp[results,results74,go_sem]):p:=h
def CD{p:Prop}(h:p:=by simp[results,results209,go_sem]):p:=h
def DJ{p:Prop}(h:p:=by simp only[ak,bI,aI];omega):p:=h
def EB{p:Prop}(h:p:=by simp[results,results153,go_sem]):p:=h
def Fo{p:Prop}(h:p:=by have:=n.o.own;rw[ay,W.o,<-b3,Nat.min_self];exact this):p:=h
def FV{p:Prop}(h:p:=by injection f with h1;injection h1 with _ h2 _;exact h2.s):p:=h
def FW{p:Prop}(h:p:=by injection s with h1;injection h1 with _ h2 _;exact h2.s):p:=h
def F2{p:Prop}(h:p:=by simp only[ByteArray.size_append',ByteArray.size_mk'];simp;omega):p:=h
end Go
namespace Go
def ae:=@Go.lt_of_block
def af:=@List.getElem?_eq_getElem
def ag:=@Nat.le_refl
def ah:=@if_neg
def ai:=@if_pos
def aj:=@List.length_cons
def ak:=@List.length_append
def aq:=@Go.RowKit.Below.refl
def ar:=@decide_eq_false
def au:=@List.length_drop
def av:=@Go.bodyPost_ret
def aw:=@List.length_map
def ax:=@List.getD_eq_getElem?_getD
def ay:=@List.length_take
def aA:=@Nat.le_trans
def aB:=@decide_eq_true
def aC:=@Go.World.block_lt_of_cell?
def aE:=@Go.results_cell_row
def aF:=@List.getElem?_append_right
def aH:=@Nat.zero_le
def aI:=@List.length_nil
def aJ:=@Nat.pow_le_pow_right
def aK:=@Go.Proofs.Tryz.underlying67
def aL:=@Go.World.size_alloc
def aP:=@List.getElem?_append_left
def aQ:=@Nat.lt_of_lt_of_le
def aR:=@Go.ownsRow_setCell_other
def aU:=@Go.IntKind.wrap_i64
def aV:=@Nat.eq_or_lt_of_le
def aW:=@List.drop_eq_getElem_cons
def aX:=@Go.World.ownsRow_nil
def aY:=@List.getElem?_map
def aZ:=@Option.map_some
def a_:=@Go.wpList_append_own
def bj:=@Go.Calls.quiet_of_same
def bk:=@decide_eq_false_iff_not
def bu:=@Go.info_parts
def bB:=@Go.Proofs.Tryz.underlying23
def bC:=@Bool.eq_iff_iff
def bD:=@List.take_of_length_le
def bF:=@List.map_cons
def bG:=@List.mem_append
def bH:=@Nat.zero_add
def bI:=@List.length_replicate
def bJ:=@List.take_succ_eq_append_getElem
def bK:=@List.map_append
def bM:=@List.length_eq_zero_iff
def bN:=@Bool.and_eq_true
def bP:=@List.dropWhile_cons
def bR:=@List.getElem?_toArray
def bS:=@List.drop_of_length_le
def bT:=@decide_eq_true_eq
def bU:=@Nat.lt_or_ge
def bX:=@Bool.true_and
def bZ:=@List.append_assoc
def b_:=@Nat.min_eq_left
def cm:=@decide_eq_true_iff
def cq:=@List.getElem_mem
def cE:=@Go.IntKind.wrap_u8
def cF:=@List.append_nil
def cG:=@Go.Proofs.Tryz.underlying52
def cH:=@List.getElem?_eq_some_iff
def cI:=@List.mem_of_getElem?
def cJ:=@decide_eq_decide
def cK:=@List.getElem_of_mem
def cL:=@List.takeWhile_cons
def cM:=@Go.Proofs.Tryz.underlying31
def cN:=@List.all_eq_true
def cP:=@List.cons_append
def cQ:=@List.mem_cons
def cR:=@Array.getElem?_eq_getElem
def cT:=@List.mem_map
def cU:=@List.mem_singleton
def cW:=@List.dropWhile_suffix
def cY:=@Nat.pow_succ
def cZ:=@List.all_cons
def c_:=@List.getElem?_take_of_lt
def dd:=@List.take_append_drop
def de:=@Go.ByteArray.toList_eq
def df:=@Go.wpList_load_mid
def dh:=@Int.tmod_eq_emod_of_nonneg
def di:=@List.drop_drop
def dj:=@List.mem_of_mem_take
def dm:=@Go.Proofs.Tryz.underlying184
def dq:=@Option.some.inj
def dt:=@Go.RowKit.ownsRow_setCell_below
def du:=@List.take_add_one
def dx:=@Go.Proofs.Tryz.underlying29
def dy:=@Go.RowKit.Below.heap_setCell
def dz:=@List.getElem?_drop
def dA:=@List.mem_of_mem_drop
def dB:=@Nat.mul_le_mul_right
def dC:=@Array.getElem?_eq_none
def dD:=@Nat.mul_comm
def dE:=@List.flatMap_append
def dF:=@List.eq_nil_of_length_eq_zero
def dG:=@List.takeWhile_prefix
def dH:=@Go.Proofs.Tryz.ntmps278
def dI:=@List.length_set
def dJ:=@Go.Proofs.Tryz.underlying9
def dK:=@Go.Proofs.Tryz.ntmps177
def dM:=@Nat.mod_two_eq_zero_or_one
def dN:=@Nat.sub_self
def dP:=@Go.Proofs.Tryz.func278
def dQ:=@Nat.add_assoc
def dR:=@Nat.mul_assoc
def dS:=@Go.Proofs.Tryz.func177
def dT:=@Go.Proofs.Tryz.ntmps154
def dU:=@List.mem_cons_of_mem
def dV:=@congrArg
def dW:=@List.count_append
def dY:=@List.map_nil
def dZ:=@Nat.add_zero
def d8:=@Go.Proofs.Tryz.func154
def d9:=@Go.Proofs.Tryz.ntmps158
def d_:=@Go.Proofs.Tryz.ntmps326
def ed:=@Nat.mod_eq_of_lt
def ef:=@List.mem_cons_self
def eg:=@Nat.eq_zero_or_pos
def eh:=@Nat.lt_of_le_of_lt
def ei:=@Array.getElem?_toList
def ej:=@List.length_singleton
def er:=@List.set_append_right
def ew:=@Nat.le_of_lt
def ez:=@Go.Proofs.Tryz.func158
def eD:=@Go.Proofs.Tryz.func326
def eE:=@Go.getD_set_ne
def eF:=@List.sum_cons
def eG:=@List.getElem?_cons_succ
def eH:=@List.suffix_refl
def eI:=@Go.wpList_store_mid
def eJ:=@List.foldl_cons
def eL:=@List.nil_append
def eO:=@Go.Proofs.Tryz.results192
def eR:=@Go.Proofs.Tryz.results256
def eT:=@Go.Calls.quiet_of
def eU:=@List.isPrefixOf_iff_prefix
def eV:=@List.suffix_cons
def eW:=@List.getElem?_zip_eq_some
def eX:=@Array.length_toList
def eY:=@List.replicate_succ
def e_:=@ByteArray.ext
def fh:=@Go.run_convert_bytes_string
def fj:=@Int.natCast_mul
def fp:=@List.length_zip
def fq:=@List.of_mem_zip
def ft:=@Go.Result.andThen_ok
def fy:=@Go.Proofs.Tryz.underlying38
def fA:=@List.map_toArray
def fB:=@List.take_length
def fD:=@Go.Proofs.Tryz.underlying3
def fE:=@Go.Proofs.Tryz.underlying5
def fF:=@Go.Proofs.Tryz.ntmps230
def fG:=@List.drop_left'
def fH:=@List.map_map
def fI:=@Go.Proofs.Tryz.func230
def fJ:=@Go.Proofs.Tryz.ntmps80
def fK:=@Nat.add_sub_cancel
def fL:=@Go.World.ownsRow.drew
def fM:=@List.flatMap_cons
def fP:=@Go.Proofs.Tryz.func80
def fQ:=@Array.size_setIfInBounds
def fR:=@Go.Proofs.Tryz.ntmps275
def fS:=@Go.Proofs.Tryz.ntmps290
def fU:=@Go.Proofs.Tryz.ntmps327
def fV:=@Nat.add_sub_cancel_left
def fW:=@Ne.s
def fX:=@Nat.le_succ
end Go
namespace Go.Proofs.YtgkljcmjnphpeaaGreatDoor
open Go.RowKit
def wi(a c b:Int)(d:Gr):K8 Qe 63 #[I U a,I U c,I U b] d λe f=>e=Ps (OV (decide (c<=a)&&decide (a<=b)))/\f=d:=by
 go_in
 go_wp2;all_goals (go_ret;refine⟨?_,rfl⟩)
 ·rename_i h;simp[h]
 ·rename_i h;simp;omega
def ou(a c b:Int)(w:Gr)(h1:c<=a)(h2:a<=b):K8 Qe 63 #[I U a,I U c,I U b] w λd e=>d=Ps (OV PV)/\e=w:=by have:=wi a c b w;simpa[h1,h2]using this
def qP(a c b:Int)(e:Gr)(h:a<c\/b<a):K8 Qe 63 #[I U a,I U c,I U b] e λd f=>d=Ps (OV P2)/\f=e:=by have d:(decide (c<=a)&&decide (a<=b))=P2:=eB;have:=wi a c b e;rw[d]at this;exact this
def yT(a c b:Int)(d:Gr):K8 Qe 216 #[I .u8 a,I .u8 c,I .u8 b] d λe f=>e=Ps (OV (decide (c<=a)&&decide (a<=b)))/\f=d:=by
 go_in
 go_wp2;all_goals (go_ret;refine⟨?_,rfl⟩)
 ·rename_i h;simp[h]
 ·rename_i h;simp;omega
def PS(a c b:Int)(d:Gr)(h1:c<=a)(h2:a<=b):K8 Qe 216 #[I .u8 a,I .u8 c,I .u8 b] d λe f=>e=Ps (OV PV)/\f=d:=by have:=yT a c b d;simpa[h1,h2]using this
def Kv(a c b:Int)(e:Gr)(h:a<c\/b<a):K8 Qe 216 #[I .u8 a,I .u8 c,I .u8 b] e λd f=>d=Ps (OV P2)/\f=e:=by have d:(decide (c<=a)&&decide (a<=b))=P2:=eB;have:=yT a c b e;rw[d]at this;exact this
def nT(w:Gr):K8 Qe 163 #[OV PV] w λa b=>a=Ps (OW #[])/\b=w:=by
 go_in
 go_wp2
 go_end0
 exact⟨rfl,rfl⟩
def Ji(a:Gr):K8 Qe 163 #[OV P2] a λb c=>b=.panicked [{ v:=.iface 58 (I U 5),recovered:=P2 }]/\c=a:=by
 go_in
 go_wp2;exact⟨rfl,rfl,rfl⟩
def iw(c:Int)(a:Gr):K8 Qe 250 #[I .u8 c] a λb d=>b=Ps (OV (c==0||c==9||c==10||c==12||c==13||c==32))/\d=a:=by
 go_in
 go_wp2;all_goals (go_ret;exact⟨by simp[*],rfl⟩)
end Go.Proofs.YtgkljcmjnphpeaaGreatDoor
namespace Go
section
open Go.RowKit
def lV{a:Gr}{b i:Nat}{c:Array GI}{e:TypeId}{d:Nat×Nat}(g:GI)(h:a.heap[b]?=O (Pp c e d)):(a.setCell ⟨b,i,N⟩ g).heap[b]?=O (Pp (c.setIfInBounds i g) e d):=by
 have f:=ae h;have j:a.heap[b]=Pp c e d:=by simpa[cR f]using h
 show(a.heap.modify b _)[b]?=_;rw[cR (by simpa using f),Array.getElem_modify_self,j];rfl
def kW{w:Gr}{b a d:Nat}(e:GI)(c:a≠b):(w.setCell ⟨b,d,N⟩ e).heap[a]?=w.heap[a]? :=
 dy _ _ _ _ c
def mA{c:Gr}{b:Nat}{a:Obj}(d:Obj)(h:c.heap[b]?=O a):(c.alloc d).heap[b]?=O a:=by rw[Below.heap_alloc _ _ _ (ae h)];exact h
def bn(w:Gr)(a:Obj):(w.alloc a).heap[w.heap.size]?=O a:=by show(w.heap.push a)[w.heap.size]?=_;simp
def iI{w:Gr}{b i:Nat}{c:Array GI}{d:TypeId}{a:Nat×Nat}(h:w.heap[b]?=O (Pp c d a)):w.cell? ⟨b,i,N⟩=c[i]?:=by simp[World.cell?,h]
def nG{w:Gr}{b i:Nat}{c:Array GI}{a:TypeId}(h:w.heap[b]?=O (Pp c a (0,0))):w.frozen? ⟨b,i,N⟩=P2:=by simp[World.frozen?,h]
def own_ne{g:Gr}{i b:Nat}{d e:TypeId}{p o:Nat}{f:GI}{q:List GI}{c:Array GI}{j:Nat×Nat}(h:g.ownsRow i d p f o q)(a:g.heap[b]?=O (Pp c e j))(n:e≠d):f.ownBlock≠O b:=by
 rcases h.2 with⟨rfl,_⟩|⟨k,r,s,rfl,_,m,_⟩;·simp[Value.ownBlock]
 ·intro l;have:k=b:=by simpa[Value.ownBlock]using l
  subst this;rw[m]at a;simp at a;exact n a.2.1.s
def Cf{c:Gr}{a b:L2}(d:GI)(h:a.block≠b.block):(c.setCell a d).cell? b=c.cell? b:=World.cell?_setCell_other c a b d (λe=>h (by rw[e]))
structure gb(e:TypeId)(B:Nat)(S:List Nat)(w w':Gr):Prop where
 os:w'.os=w.os
 tape:w'.tape=w.tape
 output:w'.output=w.output
 size:w.heap.size<=w'.heap.size
 block:∀k o,k∉S->w.heap[k]?=O o->(k<B\/∀c fz,o≠Pp c e fz)->w'.heap[k]?=O o
variable{e:TypeId}{B:Nat}{S:List Nat}
def gb.refl(e:TypeId)(B:Nat)(S:List Nat)(w:Gr):gb e B S w w:=⟨rfl,rfl,rfl,ag _,λ_ _ _ h _=>h⟩
def gb.t{a b c:Gr}(h:gb e B S a b)(k:gb e B S b c):gb e B S a c:=
 ⟨k.os.t h.os,k.tape.t h.tape,k.output.t h.output,aA h.size k.size,λi g f j d=>k.block i g f (h.block i g f j d) d⟩
def gb.m{c:List Nat}{a b:Gr}(h:gb e B S a b)(j:∀k,k∈S->k∈c):gb e B c a b:=
 ⟨h.os,h.tape,h.output,h.size,λi l f g d=>h.block i l (λm=>f (j i m)) g d⟩
def gb.drewN{a w:Gr}(h:gb e B S a w)(n:Nat):gb e B S a (w.drewN n):=⟨h.os,h.tape,h.output,h.size,h.block⟩
def gb.drew{a w:Gr}(h:gb e B S a w):gb e B S a w.drew:=⟨h.os,h.tape,h.output,h.size,h.block⟩
def gb.alloc{a w:Gr}(h:gb e B S a w)(c:Obj):gb e B S a (w.alloc c):=
 h.t ⟨rfl,rfl,rfl,eA,λ_ _ _ b _=>mA _ b⟩
def gb.setCell{a w:Gr}(h:gb e B S a w){p:L2}(f:p.block∈S)(g:GI):gb e B S a (w.setCell p g):=
 h.t ⟨rfl,rfl,rfl,by simp[World.setCell],λk _ (b:k∉S) d _=>by rw[dy _ _ _ _ (λc=>b (by rw[c];exact f))];exact d⟩
def gb.grown{l j n:Gr}{m:Option Nat}(h:gb e B S l j)(a:j.grownBy n m)(o:∀i,m=O i->B<=i/\∃f g,j.heap[i]?=O (Pp f e g)):gb e B S l n :=
 h.t ⟨a.os,a.tape,a.output,a.size,λk p _ d b=>by
  rw[a.block k (ae d) (λc=>by
   obtain⟨h1,f,g,h2⟩:=o k c.s;rw[h2]at d;rcases b with b|b;·omega
   ·exact b f g (dq d).s)]
  exact d⟩
def gb.below{a b:Gr}(h:gb e B S a b)(j:B<=a.heap.size)(g:∀k,k∈S->B<=k):LT B a b:=
 ⟨h.os,h.tape,h.output,h.size,λk f=>by obtain⟨c,d⟩:∃c,a.heap[k]?=O c:=⟨a.heap[k]'Y,cR _⟩;rw[d];exact h.block k c (λi=>by have:=g k i;omega) d (P3 f)⟩
def tN{w:Gr}{B:Nat}{e:TypeId}{j i:Nat}{v:GI}{k:List GI}(h:w.ownsRow B e j v i k):∀a,v.ownBlock=O a->B<=a/\∃b d,w.heap[a]?=O (Pp b e d):=by
 intro a c;rcases h.2 with⟨rfl,_⟩|⟨m,l,b,rfl,f,g,_⟩;·simp[Value.ownBlock]at c
 ·simp[Value.ownBlock]at c;subst c;exact⟨f,b,_,g⟩
def jp{w:Gr}{B e n:Nat}{v:GI}{xs:List GI}{b:Nat}(h:w.ownsRow B e b v n xs):∃a c,v=Z a n c:=by
 rcases h.2 with⟨e1,e2⟩|⟨g,d,f,e1,_⟩;·exact⟨N,0,by rw[e1,e2]⟩
 ·exact⟨_,_,e1⟩
def mC{w:Gr}{b:Nat}{a:GI}{d:List GI}{f:TypeId}{c:Nat×Nat}(h:w.heap[b]?=O (Pp (a::d).toArray f c)):w.cell? ⟨b,0,N⟩=O a:=iI h
def n5{w:Gr}{b:Nat}{g a:GI}{d:List GI}{f:TypeId}{c:Nat×Nat}(h:w.heap[b]?=O (Pp (g::a::d).toArray f c)):w.cell? ⟨b,1,N⟩=O a:=iI h
def rZ{a:Gr}{b:Nat}{i j c:GI}{f:List GI}{g:TypeId}{d:Nat×Nat}(h:a.heap[b]?=O (Pp (i::j::c::f).toArray g d)):a.cell? ⟨b,2,N⟩=O c:=iI h
def s_{a:Gr}{b:Nat}{i j k c:GI}{f:List GI}{g:TypeId}{d:Nat×Nat}(h:a.heap[b]?=O (Pp (i::j::k::c::f).toArray g d)):a.cell? ⟨b,3,N⟩=O c:=iI h
def qZ{a:Gr}{b:Nat}{i j k l c:GI}{f:List GI}{g:TypeId}{d:Nat×Nat}(h:a.heap[b]?=O (Pp (i::j::k::l::c::f).toArray g d)):a.cell? ⟨b,4,N⟩=O c:=iI h
def r_{a:Gr}{b:Nat}{i j k l m c:GI}{f:List GI}{g:TypeId}{d:Nat×Nat}(h:a.heap[b]?=O (Pp (i::j::k::l::m::c::f).toArray g d)):a.cell? ⟨b,5,N⟩=O c:=iI h
def uy{a:Gr}{b:Nat}{i j k l m n c:GI}{f:List GI}{g:TypeId}{d:Nat×Nat}(h:a.heap[b]?=O (Pp (i::j::k::l::m::n::c::f).toArray g d)):a.cell? ⟨b,6,N⟩=O c:=iI h
def P_{a:Gr}{b:Nat}{c d f:GI}{i:List GI}{j:TypeId}{g:Nat×Nat}(h:a.heap[b]?=O (Pp (c::d::f::i).toArray j g)):a.cell? ⟨b,0,N⟩=O c/\a.cell? ⟨b,1,N⟩=O d/\a.cell? ⟨b,2,N⟩=O f:=⟨mC h,n5 h,rZ h⟩
def Le{a:Gr}{b:Nat}{c d f g:GI}{j:List GI}{k:TypeId}{i:Nat×Nat}(h:a.heap[b]?=O (Pp (c::d::f::g::j).toArray k i)):a.cell? ⟨b,0,N⟩=O c/\a.cell? ⟨b,1,N⟩=O d/\a.cell? ⟨b,2,N⟩=O f/\a.cell? ⟨b,3,N⟩=O g:=⟨mC h,n5 h,rZ h,s_ h⟩
def Qa{a:Gr}{b:Nat}{c d f g i:GI}{k:List GI}{l:TypeId}{j:Nat×Nat}(h:a.heap[b]?=O (Pp (c::d::f::g::i::k).toArray l j)):a.cell? ⟨b,0,N⟩=O c/\a.cell? ⟨b,1,N⟩=O d/\a.cell? ⟨b,2,N⟩=O f/\a.cell? ⟨b,3,N⟩=O g/\a.cell? ⟨b,4,N⟩=O i:=⟨mC h,n5 h,rZ h,s_ h,qZ h⟩
def Lf{a:Gr}{b:Nat}{c d f g i j:GI}{l:List GI}{m:TypeId}{k:Nat×Nat}(h:a.heap[b]?=O (Pp (c::d::f::g::i::j::l).toArray m k)):a.cell? ⟨b,0,N⟩=O c/\a.cell? ⟨b,1,N⟩=O d/\a.cell? ⟨b,2,N⟩=O f/\a.cell? ⟨b,3,N⟩=O g/\a.cell? ⟨b,4,N⟩=O i/\a.cell? ⟨b,5,N⟩=O j:=⟨mC h,n5 h,rZ h,s_ h,qZ h,r_ h⟩
def qu{a:Gr}{b:Nat}{c d f g i j k:GI}{m:List GI}{n:TypeId}{l:Nat×Nat}(h:a.heap[b]?=O (Pp (c::d::f::g::i::j::k::m).toArray n l)):a.cell? ⟨b,0,N⟩=O c/\a.cell? ⟨b,1,N⟩=O d/\a.cell? ⟨b,2,N⟩=O f/\a.cell? ⟨b,3,N⟩=O g/\a.cell? ⟨b,4,N⟩=O i/\a.cell? ⟨b,5,N⟩=O j/\a.cell? ⟨b,6,N⟩=O k:=⟨mC h,n5 h,rZ h,s_ h,qZ h,r_ h,uy h⟩
def jR(a:Nat){w:Gr}{b:Nat}{c:Array GI}{d:TypeId}(h:w.heap[b]?=O (Pp c d (0,0))):w.frozen? ⟨b,a,N⟩=P2:=nG h
def Qb(d f g:Nat){a:Gr}{b:Nat}{c:Array GI}{i:TypeId}(h:a.heap[b]?=O (Pp c i (0,0))):a.frozen? ⟨b,d,N⟩=P2/\a.frozen? ⟨b,f,N⟩=P2/\a.frozen? ⟨b,g,N⟩=P2:=⟨jR d h,jR f h,jR g h⟩
def LU(d f g i:Nat){a:Gr}{b:Nat}{c:Array GI}{j:TypeId}(h:a.heap[b]?=O (Pp c j (0,0))):a.frozen? ⟨b,d,N⟩=P2/\a.frozen? ⟨b,f,N⟩=P2/\a.frozen? ⟨b,g,N⟩=P2/\a.frozen? ⟨b,i,N⟩=P2:=⟨jR d h,jR f h,jR g h,jR i h⟩
def Qc(d f g i j:Nat){a:Gr}{b:Nat}{c:Array GI}{k:TypeId}(h:a.heap[b]?=O (Pp c k (0,0))):a.frozen? ⟨b,d,N⟩=P2/\a.frozen? ⟨b,f,N⟩=P2/\a.frozen? ⟨b,g,N⟩=P2/\a.frozen? ⟨b,i,N⟩=P2/\a.frozen? ⟨b,j,N⟩=P2:=⟨jR d h,jR f h,jR g h,jR i h,jR j h⟩
def Qd(d f g i j k:Nat){a:Gr}{b:Nat}{c:Array GI}{l:TypeId}(h:a.heap[b]?=O (Pp c l (0,0))):a.frozen? ⟨b,d,N⟩=P2/\a.frozen? ⟨b,f,N⟩=P2/\a.frozen? ⟨b,g,N⟩=P2/\a.frozen? ⟨b,i,N⟩=P2/\a.frozen? ⟨b,j,N⟩=P2/\a.frozen? ⟨b,k,N⟩=P2:=⟨jR d h,jR f h,jR g h,jR i h,jR j h,jR k h⟩
def uj(d f g i j k l:Nat){a:Gr}{b:Nat}{c:Array GI}{m:TypeId}(h:a.heap[b]?=O (Pp c m (0,0))):a.frozen? ⟨b,d,N⟩=P2/\a.frozen? ⟨b,f,N⟩=P2/\a.frozen? ⟨b,g,N⟩=P2/\a.frozen? ⟨b,i,N⟩=P2/\a.frozen? ⟨b,j,N⟩=P2/\a.frozen? ⟨b,k,N⟩=P2/\a.frozen? ⟨b,l,N⟩=P2:=⟨jR d h,jR f h,jR g h,jR i h,jR j h,jR k h,jR l h⟩
end
end Go
namespace Go.Proofs.YtgkljcmjnphpeaaGreatDoor
open Go.RowKit
section
def nth(d:List Nat)(a:Nat):Nat:=d.getD a 0
def rX(w:Gr)(e:Nat)(f:Option L2)(c:List Nat):Prop:=∀a,a<G c->∃b d,f=O ⟨b,d,N⟩/\b<e/\w.cell? ⟨b,d+a,N⟩=O (I .u8 (nth c a:Nat))
structure Rd(B br bd off cap:Nat)(d:List Nat)(most:Nat)(w:Gr)(p:Nat)(g:GI)(f:List Nat):Prop where
 hB:bd<B
 hb:B<=br
 blk:w.heap[br]?=O (Pp #[Z (O ⟨bd,off,N⟩) (G d) cap,I U p,g,I U most] 141 (0,0))
 dat:∀i,i<G d->w.cell? ⟨bd,off+i,N⟩=O (I .u8 (nth d i:Nat))
 own:w.ownsRow B 5 1 g (G f) (f.map λx:Nat=>I .u8 (x:Int))
 byt:∀i,i<G d->nth d i<256
 cp:G d<=cap
 lc:cap<=9223372036854775807
 lm:most<=1000000
 lo:G f<=most
 lp:p<=G d
variable{B br bd off cap:Nat}{d:List Nat}{most:Nat}{w:Gr}{p:Nat}{g:GI}{f:List Nat}
def Rd.c0(h:Rd B br bd off cap d most w p g f):w.cell? ⟨br,0,N⟩=O (Z (O ⟨bd,off,N⟩) (G d) cap):=iI h.blk
def Rd.c1(h:Rd B br bd off cap d most w p g f):w.cell? ⟨br,1,N⟩=O (I U p):=iI h.blk
def Rd.c2(h:Rd B br bd off cap d most w p g f):w.cell? ⟨br,2,N⟩=O g:=iI h.blk
def Rd.c3(h:Rd B br bd off cap d most w p g f):w.cell? ⟨br,3,N⟩=O (I U most):=iI h.blk
def Rd.fz(h:Rd B br bd off cap d most w p g f)(i:Nat):w.frozen? ⟨br,i,N⟩=P2:=nG h.blk
def Rd.drewN(h:Rd B br bd off cap d most w p g f)(n:Nat):Rd B br bd off cap d most (w.drewN n) p g f:=
 ⟨h.hB,h.hb,h.blk,h.dat,h.own,h.byt,h.cp,h.lc,h.lm,h.lo,h.lp⟩
def Rd.sz(h:Rd B br bd off cap d most w p g f):B<w.heap.size:=by have:=h.hb;have:=ae h.blk;omega
def Rd.alloc(h:Rd B br bd off cap d most w p g f)(b:Obj):Rd B br bd off cap d most (w.alloc b) p g f:=
 ⟨h.hB,h.hb,mA _ h.blk,λi a=>by rw[World.cell?_alloc_lt _ _ _ (by have:=h.sz;have:=h.hB;show bd<_;omega)];exact h.dat i a,h.own.alloc _,h.byt,h.cp,h.lc,h.lm,h.lo,h.lp⟩
def Rd.set1(h:Rd B br bd off cap d most w p g f)(a:Nat)(c:a<=G d):Rd B br bd off cap d most (w.setCell ⟨br,1,N⟩ (I U a)) a g f:=by
 have i:=h.hB;have j:=h.hb;refine⟨h.hB,h.hb,?_,?_,?_,h.byt,h.cp,h.lc,h.lm,h.lo,c⟩;·rw[lV _ h.blk];rfl
 ·intro e b;rw[Cf _ (by show br≠bd;omega)];exact h.dat e b
 ·exact aR h.own (own_ne h.own h.blk cO) _
def AK(h:Rd B br bd off cap d most w p g f)(a:Nat)(o:0<a)(e:p+a<=G d):K8 Qe 164 #[M2 (O ⟨br,0,N⟩),I U a] w λc b=>c=Ps (Z (O ⟨bd,off+p,N⟩) a (cap-p))/\Rd B br bd off cap d most b (p+a) g f/\gb 5 B [br] w b:=by
 have l:=h.c0;have m:=h.c1;have n:=h.fz 1;have i:=h.cp;have j:=h.lc;have k:=h.lp;have t1:(a:Int)<=(G d:Int)-(p:Int):=Y
 go_in
 go_wp2_with fail;go_quiet ((go_at_call 163;exact bj (nT _)));go_wp2_with fail;go_quiet (fail);go_wp2;go_ret;refine⟨?_,?_,?_⟩
 ·show Ps (Z (O ⟨bd,off+p,N⟩) (p+a-p) (cap-p))=_;rw[fV]
 ·exact(h.drewN _).set1 (p+a) e
 ·exact((gb.refl _ _ _ _).drewN _).setCell eA _
def sQ(h:Rd B br bd off cap d most w p g f)(i:p<G d):K8 Qe 214 #[M2 (O ⟨br,0,N⟩)] w λb a=>b=Ps (I .u8 (nth d p:Nat))/\Rd B br bd off cap d most a (p+1) g f/\gb 5 B [br] w a:=by
 go_in
 go_wp2_with (go_at_call 164;apply(AK h 1 Y Y).m;rintro b a ⟨rfl,c,e⟩;have j:=c.dat p i);go_ret;exact⟨rfl,c,e⟩
def posOf(br:Nat)(w:Gr):Nat:=(intOf ((w.cell? ⟨br,1,N⟩).getD undef)).toNat
def Rd.posOf(h:Rd B br bd off cap d most w p g f):posOf br w=p:=by unfold Go.Proofs.YtgkljcmjnphpeaaGreatDoor.posOf;rw[h.c1];simp[intOf]
def _root_.Go.RowKit.Hid.o{p:Prop}(h:L1 p):p:=h
def H{q:Prop}(h:q):L1 q:=h
def infoByte:(Tryz.prog.info? 5).map (λa=>(a.zero,a.size,a.bytes))=O (O (I .u8 0),1,1):=by kernel_rfl
def Gl(h:Rd B br bd off cap d most w p g f)(b:Nat)(n:G f+b<=most):K8 Qe 276 #[M2 (O ⟨br,0,N⟩),I U b] w λe j=>e=Ps (OW #[])/\∃i,j=w.drewN i:=by
 have c:=h.c2;have m:=h.c3;have l:=h.lm;obtain⟨k,o,a⟩:=jp h.own;rw[a]at c;clear a
 go_in
 go_wp2_with fail;go_quiet ((go_at_call 63;exact bj (ou _ _ _ _ Y Y)));go_wp2
 go_end0
 exact⟨rfl,_,rfl⟩
def Rd.grown_blk(h:Rd B br bd off cap d most w p g f){a:Gr}(b:w.grownBy a g.ownBlock):a.heap[br]?=O (Pp #[Z (O ⟨bd,off,N⟩) (G d) cap,I U p,g,I U most] 141 (0,0)):=by
 rw[b.block br (ae h.blk) (λc=>own_ne h.own h.blk cO c.s)];exact h.blk
def Rd.put(h:Rd B br bd off cap d most w p g f){b:Gr}{a:GI}{xs:List Nat}(n:G f+G xs<=most)
  (l:b.ownsRow B 5 1 a (G f+G xs) ((f.map λe:Nat=>I .u8 (e:Int))++(xs.map λe:Nat=>I .u8 (e:Int)))) (j:w.grownBy b g.ownBlock):Rd B br bd off cap d most (b.setCell ⟨br,2,N⟩ a) p a (f++xs):=by
 have o:=h.hB;have q:=h.hb;have k:=h.grown_blk j;refine⟨h.hB,h.hb,?_,?_,?_,h.byt,h.cp,h.lc,h.lm,by simpa using n,h.lp⟩;·rw[lV _ k];rfl
 ·intro i m;rw[Cf _ (by show br≠bd;omega)];refine j.cell (h.dat i m) (λc=>?_);have:=(h.own.lt _ c.s).1;simp at this;omega
 ·rw[ak,bK];exact aR l (own_ne l k cO) _
def po(h:Rd B br bd off cap d most w p g f)(a:List Nat)(k:L2)(c:Nat)(s:G f+G a<=most)(C:B<=w.heap.size)
  (z:∀o,o<G a->w.cell? (k.add o)=O (I .u8 (nth a o:Nat))):K8 Qe 213 #[M2 (O ⟨br,0,N⟩),Z (O k) (G a) c] w λi r=>i=Ps (OW #[])/\∃L,Rd B br bd off cap d most r p L (f++a)/\gb 5 B [br] w r:=by
 obtain⟨J,A,D,E,F⟩:=bu infoByte;have Q:=h.c2;have P:=h.lm
 go_in
 go_wp2_with (first|(go_at_call 276;apply(Gl h _ s).m;rintro i r ⟨rfl,T,rfl⟩)|(at_builtin;refine a_ _ rfl (.tmp 12) (.tmp 13) 23 rfl B 5 J (I .u8 0) 1 1 bB A D E F rfl cO g (G f) _ rfl h.own k (G a) c (a.map λu:Nat=>I .u8 (u:Int)) rfl eA ?hnews ?hone ?h63 ?hby C ?_))
 case hnews=>
  intro q t e;have l:q<G a:=by have:=(cH.1 e).1;simpa using this
  have i:t=I .u8 (nth a q:Nat):=by simp[l]at e;simp[nth,l,e]
  rw[i];exact z q l
 case hone=>intro t e;simp at e;obtain⟨u,_,rfl⟩:=e;rfl
 case h63=>unfold maxLen;omega
 case hby=>omega
 intro V M n b _;have j:w.grownBy M g.ownBlock:=⟨b.os,b.tape,b.output,b.size,b.block⟩;clear b;have m:=h.grown_blk j;have S:=rZ m;have R:=jR 2 m;obtain⟨y,K,rfl⟩:=jp n;have x:=h.put s n j;have v:=((gb.refl 5 B [br] w).grown j (tN h.own)).setCell (p:=⟨br,2,N⟩) eA (Z y (G f+G a) K);clear n j m;go_wp2
 go_end0
 exact⟨rfl,_,x,v⟩
def F9(h:Rd B br bd off cap d most w p g f)(c:Nat)(i:Int)(m:i=c)(l:G f+1<=most):K8 Qe 213 #[M2 (O ⟨br,0,N⟩),Z (O ⟨w.heap.size,0,N⟩) 1 1] (w.alloc (Pp #[I .u8 i] 5)) λe b=>e=Ps (OW #[])/\∃a,Rd B br bd off cap d most b p a (f++[c])/\gb 5 B [br] w b:=by
 subst m;have o:=h.sz;refine(po (h.alloc _) [c] ⟨w.heap.size,0,N⟩ 1 l eB ?_).m ?_
 ·intro n j;obtain rfl:n=0:=by simpa using j
  show(w.alloc _).cell? ⟨w.heap.size,0+0,N⟩=_;rw[World.cell?_alloc_new];rfl
 ·rintro e b ⟨rfl,a,r,k⟩;exact⟨rfl,a,r,((gb.refl _ _ _ _).alloc _).t k⟩
end
section
variable{B i j f b:Nat}{d:List Nat}{a:Nat}{w:Gr}{p:Nat}{k:GI}{g:List Nat}
def mf(c:Nat):Bool:=c==0||c==9||c==10||c==12||c==13||c==32
def GN(h:Rd B i j f b d a w p k g)(l:Nat)(n:l<=G d)
  (m:K8 Qe 188 #[Z (O ⟨j,f,N⟩) (G d) b,I U p] (w.drewN 1) λe c=>e=Ps (I U l)/\c=w.drewN 1):K8 Qe 155 #[M2 (O ⟨i,0,N⟩)] w λe c=>e=Ps (OW #[])/\Rd B i j f b d a c l k g/\gb 5 B [i] w c:=by
 have o:=h.c0;have q:=h.c1;have r:=h.fz 1
 go_in
 go_wp2_with fail;go_region_with (go_at_call 188;apply m.m;rintro e c ⟨rfl,rfl⟩);all_goals go_wp2
 all_goals go_end0
 all_goals exact⟨rfl,(h.drewN 1).set1 l n,((gb.refl _ _ _ _).drewN 1).setCell eA _⟩
def Eb(h:Rd B i j f b d a w (G d) k g):K8 Qe 156 #[M2 (O ⟨i,0,N⟩)] w λc l=>c=Ps (OW #[])/\∃e,l=w.drewN e:=by
 have m:=h.c0;have n:=h.c1
 go_in
 go_wp2_with fail;go_quiet ((go_at_call 163;exact bj (nT _)));go_wp2
 go_end0
 exact⟨rfl,_,rfl⟩
end
def nu(a:Nat):Nat:=if a<10 then 48+a else 87+a
def gI(c:Nat):Option Nat:=if 48<=c/\c<=57 then O (c-48)else if 97<=c/\c<=102 then O (c-97+10)else if 65<=c/\c<=70 then O (c-65+10)else N
def td(a:Nat)(h:a<16):nu a<256:=by unfold nu;split<;>omega
section
variable{B l k i g:Nat}{d:List Nat}{f:Nat}{w:Gr}{p:Nat}{m:GI}{j:List Nat}
def Gc{a b:Int}{c:Bool}(h:a=b):Ps (OW #[I .u8 a,OV c])=Ps (OW #[I .u8 b,OV c]):=by rw[h]
def Ct(c q:Nat)(w:Gr)(h:gI c=O q):K8 Qe 275 #[I .u8 c] w λb e=>b=Ps (OW #[I .u8 q,OV PV])/\e=w:=by
 unfold gI at h;by_cases h1:48<=c/\c<=57
 ·rw[ai h1]at h;have a:=dq h;subst a;have n:(48:Int)<=(c:Int):=Y;have o:(c:Int)<=57:=Y;go_enter func275,fR;go_wp2_with (go_at_call 216;apply(yT _ _ _ _).m;rintro b e ⟨rfl,rfl⟩)
  go_ret2
  exact⟨Gc Y,rfl⟩
 rw[ah h1]at h;have r:(decide ((48:Int)<=(c:Int))&&decide ((c:Int)<=57))=P2:=eB;by_cases h2:97<=c/\c<=102
 ·rw[ai h2]at h;have a:=dq h;subst a;have n:(97:Int)<=(c:Int):=Y;have o:(c:Int)<=102:=Y;go_enter func275,fR;go_wp2_with (go_at_call 216;apply(yT _ _ _ _).m;rintro b e ⟨rfl,rfl⟩)
  go_ret2
  exact⟨Gc Y,rfl⟩
 rw[ah h2]at h;have s:(decide ((97:Int)<=(c:Int))&&decide ((c:Int)<=102))=P2:=eB;by_cases h3:65<=c/\c<=70
 ·rw[ai h3]at h;have a:=dq h;subst a;have n:(65:Int)<=(c:Int):=Y;have o:(c:Int)<=70:=Y;go_enter func275,fR;go_wp2_with (go_at_call 216;apply(yT _ _ _ _).m;rintro b e ⟨rfl,rfl⟩)
  go_ret2
  exact⟨Gc Y,rfl⟩
 ·rw[ah h3]at h;cases h
def yB(c e:Nat)(w:Gr)(h:gI c=O e):K8 Qe 212 #[I .u8 c] w λa b=>a=Ps (I .u8 e)/\b=w:=by
 have n:=H h
 go_in
 go_wp2_with (first|(go_at_call 275;apply(Ct _ _ _ n).m;rintro a b ⟨rfl,rfl⟩)|(go_at_call 163;apply(nT _).m;rintro a b ⟨rfl,rfl⟩));go_ret;exact⟨rfl,rfl⟩
def tu(a b:Nat)(c:a<16)(e:b<16):a*16 ||| b=a*16+b:=by
 have:∀a b:Fin 16,a.val*16 ||| b.val=a.val*16+b.val:=cO
 exact this ⟨a,c⟩ ⟨b,e⟩
end
end Go.Proofs.YtgkljcmjnphpeaaGreatDoor
namespace Go
section
section
variable{P:Program}{g:Array Oper}{Q:Exit->MN->Gr->Prop}{m:Region.Mode}{S:Array Bool->Gr->Prop}
def mw(m:Region.Mode)(g:Array Oper)(a:Array Bool):Prop:=
 ∀c d,g[c]?=O d->a.getD c P2=PV->∀b∈d.after,Region.binds m b=PV->a.getD b.on P2=PV
def mw.set{i:Nat}{a:Array Bool}(h:mw m g a)(n:i∈Region.ready m g a):mw m g (a.setIfInBounds i PV):=by
 intro j k f o b d c;by_cases e:i=j
 ·subst e;obtain⟨_,q,p,l⟩:=mem_ready.1 n;obtain rfl:k=q:=dq (f.s.t p);exact getD_set_true (l b d c)
 ·exact getD_set_true (h j k f (by rwa [eE P2 e]at o) b d c)
def mw.start(a:Nat):mw m g (Array.replicate a P2):=by
 intro c d _ b;have:(Array.replicate a P2).getD c P2=P2:=by rcases bU c a with h|h<;>simp[h]
 rw[this]at b;cases b
def vv(m:Region.Mode)(g:Array Oper)(b:Nat):Nat->Nat->Bool
 |0,_=>P2
 |c+1,d=>match g[d]? with
  |none=>P2
  |some e=>e.after.any λa=>Region.binds m a&&(a.on==b||vv m g b c a.on)
def mw.came{c:Array Bool}(h:mw m g c){j:Nat}:∀(d b:Nat),vv m g j d b=PV->c.getD b P2=PV->c.getD j P2=PV
 |0,_,a,_=>by cases a
 |d+1,b,a,n=>by
  unfold vv at a;cases i:g[b]? with
  |none=>rw[i]at a;cases a
  |some l=>
   rw[i]at a;simp only[Array.any_eq_true]at a;obtain⟨k,o,e⟩:=a;simp only[bN,Bool.or_eq_true,beq_iff_eq]at e;have f:=h b l i n l.after[k] (Array.getElem_mem _) e.1;rcases e.2 with h1|h1;·rw[h1]at f;exact f
   ·exact h.came d _ h1 f
def qY(P:Program)(m:Region.Mode)(g:Array Oper)(Q:Exit->MN->Gr->Prop)(S:Array Bool->Gr->Prop):Nat->Array Bool->MN->Gr->Prop
 |0,a,b,c=>Region.ready m g a=[]/\Q .normal b c
 |f+1,a,b,c=>(Region.ready m g a=[]->Q .normal b c) /\
  ∀i∈Region.ready m g a,wpOp P g Q i (λe d=>S (a.setIfInBounds i PV) d/\qY P m g Q S f (a.setIfInBounds i PV) e d) b c
def DP:∀(a:Nat) (b:Array Bool) (c:MN) (d:Gr),qY P m g Q S a b c d->wpAny P m g Q a b c d
 |0,_,_,_,h=>h
 |a+1,_,_,_,h=>⟨h.1,λj i=>wpOp_mono (λe k f=>DP a _ e k f.2) (h.2 j i)⟩
def tW(m:Region.Mode)(g:Array Oper)(S:Array Bool->Gr->Prop)(c:Nat)(b:Gr):Prop:=∃a,mw m g a/\a.getD c PV=P2/\S a b
def G_{d:Nat}{p:Oper}{B:GI}(z:g[d]?=O p)(R:∀(e:Nat) (T:Oper) s b,g[e]?=O T->T.op≠.select s b)
  (W:∀c i l,Q (.panic c) (i.put p.dst B) l->Q (.panic c) i l) (F:∀a r,S a r->S (a.setIfInBounds d PV) r) (X:∀a r,S (a.setIfInBounds d PV) r->S a r):∀(t:Nat) (a:Array Bool) (i:MN) (l:Gr),mw m g a ->(∀e o,g[e]?=O o->e≠d->a.getD e PV=P2->(∀n∈o.after,Region.binds m n=PV->n.on≠d)->p.apart g o=PV) ->d∈Region.ready m g a->YieldsIf P g (tW m g S d) p B i->S a l ->qY P m g Q S t (a.setIfInBounds d PV) (i.put p.dst B) l->qY P m g Q S (t+1) a i l:=by
 intro t;induction t with
 |zero=>
  intro a i l w _ f x u q;refine⟨λh=>(by rw[h]at f;cases f),λe v=>?_⟩;by_cases j:e=d;·subst j;exact x.wpOp z ⟨a,w,(mem_ready.1 f).1,u⟩ ⟨F _ _ u,q⟩
  ·have:=ready_mono v j;rw[q.1]at this;cases this
 |succ t ih=>
  intro a i l w J f x u q;refine⟨λh=>(by rw[h]at f;cases f),λe v=>?_⟩;by_cases j:e=d;·subst j;exact x.wpOp z ⟨a,w,(mem_ready.1 f).1,u⟩ ⟨F _ _ u,q⟩
  have h1:=q.2 e (ready_mono v j);obtain⟨M,o,A,aa⟩:=mem_ready.1 v;have K:=(mem_ready.1 f).1;have ao:∀n∈o.after,Region.binds m n=PV->n.on≠d:=by
   intro n he hb ac;have h2:=aa n he hb;rw[ac]at h2;rcases bU d a.size with y|y;·simp[y]at K h2;rw[K]at h2;cases h2
   ·simp[dC y]at h2
  have h2:=wpOp_putIf A (J e o A j M ao) (λs b=>R d p s b z) (λs b=>R e o s b A) W x h1;refine wpOp_mono (λV w' h3=>?_) h2;obtain⟨a1,D,C⟩:=h3;rw[Array.setIfInBounds_comm _ _ (fW j)]at D C;have E:=X _ _ D;refine⟨E,ih _ V w' (w.set v) ?_ (ready_mono f (fW j)) a1 E C⟩;intro k ok hk ad a0 al;refine J k ok hk ad ?_ al;by_cases L:e=k;·subst L;exact M
  ·rwa [eE PV L]at a0
def tK{i:Nat}{f:Oper}{v:GI}{j:Nat}{a:Array Bool}{d:MN}{b:Gr}(o:g[i]?=O f)
  (u:Region.noSelect g=PV) (s:Region.free m g a i=PV) (t:(Region.ready m g a).contains i=PV)
  (q:∀c d b,Q (.panic c) (d.put f.dst v) b->Q (.panic c) d b) (n:∀a e,S a e->S (a.setIfInBounds i PV) e) (r:∀a e,S (a.setIfInBounds i PV) e->S a e)
  (k:mw m g a) (w:YieldsIf P g (tW m g S i) f v d) (l:S a b)
  (h:mw m g (a.setIfInBounds i PV)->S (a.setIfInBounds i PV) b->qY P m g Q S j (a.setIfInBounds i PV) (d.put f.dst v) b):qY P m g Q S (j+1) a d b:=
 have p:i∈Region.ready m g a:=by simpa using t
 G_ o (Region.noSelect_spec u) q n r j a d b k (Region.free_spec o s) p w l (h (k.set p) (n _ _ l))
def Ha{i:Nat}{e:Oper}{j:Nat}{c:Array Bool}{b:MN}{a:Gr}(f:Region.ready m g c=[i])(s:g[i]?=O e)(o:mw m g c)
  (h:∀d:MN->Gr->Prop,Shut (∀b a,S (c.setIfInBounds i PV) a->(mw m g (c.setIfInBounds i PV)->S (c.setIfInBounds i PV) a->qY P m g Q S j (c.setIfInBounds i PV) b a)->d b a)->if Region.wanted e (yielded g b.tmps)=PV then Oper.wp P e b a d Q else d (b.put e.dst undef) a):qY P m g Q S (j+1) c b a:=by
 refine⟨λk=>(by rw[f]at k;cases k),λt n=>?_⟩;rw[f]at n;obtain rfl:=cU.1 n;have p:=o.set (i:=t) (by rw[f];simp);exact wpOp_step s (λd q=>h d (λb a l r=>q b a ⟨l,r p l⟩))
def jd:(∀(e:MN) (i:Tmp) (f:GI),e.put (O i) f={ e with tmps:=e.tmps.setIfInBounds i f })/\(∀(e:MN) (f:GI),e.put N f=e)/\(∀{b:Type} (a:List b) (c:Nat) (d:b),a.toArray.setIfInBounds c d=(a.set c d).toArray)/\(∀{b:Type} (y:b) (a:List b) (d:b),(y::a).set 0 d=d::a)/\(∀{b:Type} (y:b) (a:List b) (c:Nat) (d:b),(y::a).set (c+1) d=y::a.set c d)/\(∀{b:Type} (a:List b) (c:Nat) (h:c<a.toArray.size),a.toArray[c]=a[c]'(by simpa using h))/\(∀{b:Type} (y:b) (a:List b) (c:Nat) (h:c+1<(y::a).length),(y::a)[c+1]=a[c]'(by simpa using h))/\(∀{b:Type} (y:b) (a:List b) (h:0<(y::a).length),(y::a)[0]=y):=
 ⟨λ_ _ _=>rfl,λ_ _=>rfl,λ_ _ _=>eA,λ_ _ _=>rfl,λ_ _ _ _=>rfl,λ_ _ _=>rfl,λ_ _ _ _=>rfl,λ_ _ _=>rfl⟩
def nH:(∀(d:MN) (f:Tmp) (v:GI),d.put (O f) v={ d with tmps:=d.tmps.setIfInBounds f v })/\(∀(d:MN) (v:GI),d.put N v=d)/\(∀{a:Type} (b:List a) (i:Nat) (c:a),b.toArray.setIfInBounds i c=(b.set i c).toArray)/\(∀{a:Type} (e:a) (b:List a) (c:a),(e::b).set 0 c=c::b)/\(∀{a:Type} (e:a) (b:List a) (i:Nat) (c:a),(e::b).set (i+1) c=e::b.set i c):=
 ⟨λ_ _ _=>rfl,λ_ _=>rfl,λ_ _ _=>eA,λ_ _ _=>rfl,λ_ _ _ _=>rfl⟩
def sA{a:Prop}(h:a:=by first|exact λ_ _ h=>h|exact λ_ _=>(oW.set (by decide)).1|exact λ_ _=>(xu.set (by decide)).1|exact λ_ _=>(pJ.set (by decide)).1|exact λ_ _=>(oB.set (by decide)).1|exact λ_ _=>(SO.set (by decide)).1|exact λ_ _=>(SB.set (by decide)).1|exact λ_ _=>vP.s1 (by decide)):a:=h
def sB{a:Prop}(h:a:=by first|exact λ_ _ h=>h|exact λ_ _=>(oW.set (by decide)).2|exact λ_ _=>(xu.set (by decide)).2|exact λ_ _=>(pJ.set (by decide)).2|exact λ_ _=>(oB.set (by decide)).2|exact λ_ _=>(SO.set (by decide)).2|exact λ_ _=>(SB.set (by decide)).2|exact λ_ _=>vP.s2 (by decide)):a:=h
def Shut.o{p:Prop}(h:Shut p):p:=h
def tk(d:Nat)(j:GI){i:Oper}{k:Nat}{a:Array Bool}{e:MN}{b:Gr}(l:mw m g a)(w:∀b,tW m g S d b->(execOp e.eval i).run P b=.ok (.value j) b)(o:S a b)
  (h:mw m g (a.setIfInBounds d PV)->S (a.setIfInBounds d PV) b->qY P m g Q S k (a.setIfInBounds d PV) (e.put i.dst j) b)
  (s:g[d]?=O i:=by rfl) (u:Region.noSelect g=PV:=by kernel_rfl) (r:Region.free m g a d=PV:=by kernel_rfl) (t:(Region.ready m g a).contains d=PV:=by kernel_rfl)
  (n:∀c e b,Q (.panic c) (e.put i.dst j) b->Q (.panic c) e b:=by exact λ_ _ _ h=>h)
  (p:∀a f,S a f->S (a.setIfInBounds d PV) f:=by exact sA)
  (q:∀a f,S (a.setIfInBounds d PV) f->S a f:=by exact sB)
  (v:Region.wanted i (yielded g e.tmps)=PV:=by rfl):qY P m g Q S (k+1) a e b:=
 tK s u r t n p q l (P3 ⟨v,w⟩) o h
def on(i:Nat){c:Oper}{e:Nat}{a:Array Bool}{b:MN}{w:Gr}(f:mw m g a)
  (h:∀d:MN->Gr->Prop,Shut (∀b w,S (a.setIfInBounds i PV) w->(mw m g (a.setIfInBounds i PV)->S (a.setIfInBounds i PV) w->qY P m g Q S e (a.setIfInBounds i PV) b w)->d b w)->if Region.wanted c (yielded g b.tmps)=PV then Oper.wp P c b w d Q else d (b.put c.dst undef) w)
  (k:Region.ready m g a=[i]:=by kernel_rfl) (j:g[i]?=O c:=by rfl):qY P m g Q S (e+1) a b w:=
 Ha k j f h
def tj(i:Nat){f:GI}{j:MN}{e:Oper}{k:Nat}{a:Array Bool}{b:MN}{w:Gr}(l:mw m g a)(o:S a w)
  (h:mw m g (a.setIfInBounds i PV)->S (a.setIfInBounds i PV) w->qY P m g Q S k (a.setIfInBounds i PV) j w)
  (t:g[i]?=O e:=by rfl) (v:Region.noSelect g=PV:=by kernel_rfl) (s:Region.free m g a i=PV:=by kernel_rfl) (u:(Region.ready m g a).contains i=PV:=by kernel_rfl)
  (n:∀c b w,Q (.panic c) (b.put e.dst f) w->Q (.panic c) b w:=by exact λ_ _ _ h=>h)
  (p:∀a d,S a d->S (a.setIfInBounds i PV) d:=by exact sA)
  (q:∀a d,S (a.setIfInBounds i PV) d->S a d:=by exact sB)
  (x:Region.wanted e (yielded g b.tmps)=PV:=by rfl)
  (y:∀w,tW m g S i w->(execOp b.eval e).run P w=.ok (.value f) w:=by intro d z;go_simp;try(with_reducible rfl))
  (r:b.put e.dst f=j:=by(try simp only[jd]);exact rfl):qY P m g Q S (k+1) a b w:=
 by subst r;exact tK t v s u n p q l (P3 ⟨x,y⟩) o h
def tl(b:Nat){i:GI}{j:MN}{f:Oper}{k:Nat}{a:Array Bool}{d:MN}{w:Gr}(l:mw m g a)(o:S a w)
  (h:mw m g (a.setIfInBounds b PV)->S (a.setIfInBounds b PV) w->qY P m g Q S k (a.setIfInBounds b PV) j w)
  (t:g[b]?=O f:=by rfl) (v:Region.noSelect g=PV:=by kernel_rfl) (s:Region.free m g a b=PV:=by kernel_rfl) (u:(Region.ready m g a).contains b=PV:=by kernel_rfl)
  (n:∀c d w,Q (.panic c) (d.put f.dst i) w->Q (.panic c) d w:=by exact λ_ _ _ h=>h)
  (p:∀a e,S a e->S (a.setIfInBounds b PV) e:=by exact sA)
  (q:∀a e,S (a.setIfInBounds b PV) e->S a e:=by exact sB)
  (x:Region.wanted f (yielded g d.tmps)=PV:=by rfl) (y:∀w,tW m g S b w->(execOp d.eval f).run P w=.ok (.value i) w)
  (r:d.put f.dst i=j:=by(try simp only[jd]);exact rfl):qY P m g Q S (k+1) a d w:=
 by subst r;exact tK t v s u n p q l (P3 ⟨x,y⟩) o h
def sC{d:Prop}(h:d:=by intro f b;first|(obtain⟨_,_,_,a,c,e,i,j,k⟩:=b;go_simp;(try(with_reducible rfl));done)|(obtain⟨_,_,_,a,c,e⟩:=b;go_simp;(try(with_reducible rfl));done)|(obtain⟨_,_,_,a,c⟩:=b;go_simp;(try(with_reducible rfl));done)|(have a:=Cr b;clear b;go_simp;(try(with_reducible rfl));done)|(obtain⟨_,_,_,a⟩:=b;(first|unfold vW at a|unfold EW at a|unfold EX at a);go_simp;(try(with_reducible rfl));done)):d:=h
def tm(i:Nat){v:GI}{f:MN}{e:Oper}{j:Nat}{a:Array Bool}{b:MN}{w:Gr}(k:mw m g a)(n:S a w)
  (h:mw m g (a.setIfInBounds i PV)->S (a.setIfInBounds i PV) w->qY P m g Q S j (a.setIfInBounds i PV) f w)
  (s:g[i]?=O e:=by rfl) (u:Region.noSelect g=PV:=by kernel_rfl) (r:Region.free m g a i=PV:=by kernel_rfl) (t:(Region.ready m g a).contains i=PV:=by kernel_rfl)
  (l:∀c b w,Q (.panic c) (b.put e.dst v) w->Q (.panic c) b w:=by exact λ_ _ _ h=>h)
  (o:∀a d,S a d->S (a.setIfInBounds i PV) d:=by exact sA)
  (p:∀a d,S (a.setIfInBounds i PV) d->S a d:=by exact sB)
  (x:Region.wanted e (yielded g b.tmps)=PV:=by rfl) (y:∀w,tW m g S i w->(execOp b.eval e).run P w=.ok (.value v) w:=by exact sC)
  (q:b.put e.dst v=f:=by(try simp only[jd]);exact rfl):qY P m g Q S (j+1) a b w:=
 by subst q;exact tK s u r t l o p k (P3 ⟨x,y⟩) n h
def tv(b:Nat){i:MN}{f:Oper}{j:Nat}{a:Array Bool}{d:MN}{w:Gr}(k:mw m g a)(n:S a w)
  (h:mw m g (a.setIfInBounds b PV)->S (a.setIfInBounds b PV) w->qY P m g Q S j (a.setIfInBounds b PV) i w)
  (s:g[b]?=O f:=by rfl) (u:Region.noSelect g=PV:=by kernel_rfl) (r:Region.free m g a b=PV:=by kernel_rfl) (t:(Region.ready m g a).contains b=PV:=by kernel_rfl)
  (l:∀c d w,Q (.panic c) (d.put f.dst undef) w->Q (.panic c) d w:=by exact λ_ _ _ h=>h)
  (o:∀a e,S a e->S (a.setIfInBounds b PV) e:=by exact sA)
  (p:∀a e,S (a.setIfInBounds b PV) e->S a e:=by exact sB)
  (v:Region.wanted f (yielded g d.tmps)=P2:=by rfl)
  (q:d.put f.dst undef=i:=by(try simp only[jd]);exact rfl):qY P m g Q S (j+1) a d w:=
 by subst q;exact tK s u r t l o p k (P4 ⟨v,rfl⟩) n h
def oh{a:Array Bool}{b:MN}{w:Gr}(c:Region.ready m g a=[])(h:Q .normal b w):∀d,qY P m g Q S d a b w
 |0=>⟨c,h⟩
 |_+1=>⟨λ_=>h,by rw[c];simp⟩
def om{id:Nat}{a:MN}{b:Gr}(S:Array Bool->Gr->Prop)(c:P.follows .mixedOrders=PV)
  (h:mw .any g (Array.replicate g.size P2)->qY P .any g Q S g.size (Array.replicate g.size P2) a b.drew):(Code.region id g PV).wp P Q a b:=
 wp_region_any c (DP _ _ _ _ (h (mw.start _)))
end
end
section
open Go.RowKit
def Dw(b:Nat)(j:TypeId)(i:Nat×Nat):∀(e:List GI) (c:Nat) (g:Gr) (d:Array GI),g.heap[b]?=O (Pp d j i) ->∃f:Array GI,(g.setCells b c e).heap[b]?=O (Pp f j i)/\f.size=d.size/\∀a,f[a]?=if c<=a/\a<c+G e/\a<d.size then e[a-c]? else d[a]?
 | [],c,g,d,h=>⟨d,h,rfl,λa=>by rw[ah eB]⟩
 |k::e,c,g,d,h=>by
  obtain⟨f,h1,h2,h3⟩:=Dw b j i e (c+1) (g.setCell ⟨b,c,N⟩ k) (d.setIfInBounds c k) (lV k h);refine⟨f,h1,by rw[h2];simp,λa=>?_⟩;rw[h3 a,fQ];by_cases l:c+1<=a/\a<c+1+G e/\a<d.size;·rw[ai l,ai eB,show a-c=(a-(c+1))+1 by omega,eG]
  ·rw[ah l];by_cases m:c=a
   ·subst m;by_cases n:c<d.size;·rw[ai eB];simp[n]
    ·rw[ah Y];simp[n]
   ·rw[ah eB,Array.getElem?_setIfInBounds_ne m]
def Ds{f:Gr}{b:Nat}{e:TypeId}{d:Nat×Nat}{c:Array GI}{a:List GI}(h:f.heap[b]?=O (Pp c e d))(l:c.size=G a):(f.setCells b 0 a).heap[b]?=O (Pp a.toArray e d):=by
 obtain⟨m,h1,h2,h3⟩:=Dw b e d a 0 f c h;rw[h1];congr 2;apply Array.ext (by simp[h2,l]);intro g j k;have:=h3 g;rw[ai ⟨Y,Y,Y⟩,Nat.sub_zero]at this;have i:g<G a:=by simpa using k
 rw[cR j,af i]at this;simpa using this
def xg(b:Nat){k:Nat}(e:k≠b):∀(c:List GI) (a:Nat) (d:Gr),(d.setCells b a c).heap[k]?=d.heap[k]?
 | [],_,_=>rfl
 |v::c,a,d=>by show((d.setCell ⟨b,a,N⟩ v).setCells b (a+1) c).heap[k]?=_;rw[xg b e c (a+1),kW _ e]
def x_(b a:Nat)(g:a<=b):∀(e:List GI) (d:Nat) (c f:Gr),LT a c f->LT a c (f.setCells b d e)
 | [],_,_,_,h=>h
 |v::e,d,c,f,h=>x_ b a g e (d+1) c _ (h.setCell g v)
def Dx(b:Nat):∀(c:List GI) (a:Nat) (d:Gr),(d.setCells b a c).heap.size=d.heap.size
 | [],_,_=>rfl
 |e::c,a,d=>by show((d.setCell ⟨b,a,N⟩ e).setCells b (a+1) c).heap.size=_;rw[Dx b c (a+1)];simp
end
section
def Dv{p:Program}{f:Gr}{A:Array Oper}{e:Oper}{d:MN}{y:MN->Gr->Prop}{C:Exit->MN->Gr->Prop}{B:Prop}(K:e.guard=N)(s v:Operand)(n:TypeId)
  (Q:e.op=.call { callee:=.builtin .append,args:=#[s,v],argTypes:=#[n,n]})
  (m:Nat) (g:TypeId) (i:TypeInfo) (x:GI) (b r:Nat) (W:p.underlying n=O (.slice g)) (L:p.info? g=O i) (hz:i.zero=O x)
  (T:i.size=b) (F:i.bytes=r) (aa:x.cells.size=b) (V:0<b)
  (l:GI) (j:Nat) (w:List GI) (S:d.eval s=l) (R:f.ownsRow m g b l j w)
  (q:L2) (a c:Nat) (k:List GI) (hx:d.eval v=Z (O q) a c) (M:G k=a*b) (P:∀z o,k[z]?=O o->f.cell? (q.add z)=O o) (h1:∀o∈k,o.oneCell'=PV)
  (D:j+a<=maxLen) (J:(j+a)*r<=140737488355328) (E:m<=f.heap.size)
  (h:∀t u,u.ownsRow m g b t (j+a) (w++k)->f.grownBy u l.ownBlock->(t=Z N 0 0↔l=Z N 0 0/\a=0)->y (d.put e.dst t) u):if Region.wanted e (yielded A d.tmps)=PV then Oper.wp p e d f y C else B:=by
 have X:Region.wanted e (yielded A d.tmps)=PV:=by simp[Region.wanted,K]
 rw[ai X];exact wp_append_own f s v n Q m g i x b r W L hz T F aa V l j w S R q a c k hx M P h1 D J E h
section
variable{P:Program}{w:Gr}
def pR(g a:Nat):(⟨g,0,N⟩:L2).add a=⟨g,a,N⟩:=by unfold Addr.add;split<;>simp_all
def NN(r:Nat)(k t i:TypeId)(f:TypeInfo)(v:GI)(j x:Nat)(B:P.underlying k=O (.slice i))(y:P.info? i=O f)(Q:f.zero=O v)
  (M:f.size=j) (F:f.bytes=x) (ac:v.cells.size=j) (aa:0<j)
  (a b n:Nat) (q:List GI) (o:w.ownsRow r i j (Z (O ⟨a,0,N⟩) b n) b q)
  (m:L2) (d c:Nat) (h:List GI) (s:G h=d*j) (z:∀g e,h[g]?=O e->w.cell? (m.add g)=O e) (h1:∀e∈h,e.oneCell'=PV)
  (E:b+d<=maxLen) (J:(b+d)*x<=140737488355328) (S:r<=w.heap.size):∃u l,(Builtin.append_ #[k,k] t #[Z (O ⟨a,0,N⟩) b n,Z (O m) d c]).run P w=.ok u l/\l.ownsRow r i j u (b+d) (q++h)/\w.grownBy l (O a) /\
   (∀g e,q[g]?=O e->l.cell? ⟨a,g,N⟩=O e):=by
 obtain⟨u,l,A,h2,h3,_⟩:=run_append_own (P:=P) w r k t i f v j x B y Q M F ac aa _ b q o m d c h s z h1 E J S;refine⟨u,l,A,h2,h3,?_⟩;have al:b+d<=9223372036854775807:=by simp only[maxLen]at E;omega
 have X:=(o.lt a rfl).2;subst M;rcases o.2 with⟨R,_⟩|⟨g',ad,D,hv,_,W,_,_,T,_⟩;·cases R
 cases hv;intro g e C;by_cases L:b+d<=n
 ·have V:b*f.size+G h<=D.size:=by rw[s,T,<-Nat.add_mul];exact dB _ L
  have p:=run_append_room (P:=P) w k t i f B y a b n D W m d c h s z h1 L V;rw[A]at p;injection p with e1 e2;subst e1;have:=h2.cells (g:=a) rfl g e (by rw[aP (cH.1 C).1];exact C)
  rwa [pR]at this
 ·subst F;have K:=o.cells (g:=a) rfl;have p:=run_append_grow (P:=P) w k t i f v B y Q ⟨a,0,N⟩ b n q o.1 K m d c h s z Y Y (growslice_fits Y J);rw[A]at p;injection p with e1 e2;subst e2;rw[World.cell?_alloc_lt _ _ _ (by show a<w.drew.heap.size;simpa using X)];have:=K g e C
  rwa [pR]at this
def OX{y:Array Oper}{b:Oper}{f:MN}{x:MN->Gr->Prop}{C:Exit->MN->Gr->Prop}{B:Prop}(L:b.guard=N)(z A:Operand)(p:TypeId)
  (S:b.op=.call { callee:=.builtin .append,args:=#[z,A],argTypes:=#[p,p]})
  (o:Nat) (j:TypeId) (l:TypeInfo) (v:GI) (d t:Nat) (ht:P.underlying p=O (.slice j)) (M:P.info? j=O l) (hz:l.zero=O v)
  (X:l.size=d) (J:l.bytes=t) (ac:v.cells.size=d) (aa:0<d)
  (k a u:Nat) (r:List GI) (W:f.eval z=Z (O ⟨k,0,N⟩) a u) (T:w.ownsRow o j d (Z (O ⟨k,0,N⟩) a u) a r)
  (s:L2) (g c:Nat) (n:List GI) (hx:f.eval A=Z (O s) g c) (Q:G n=g*d) (R:∀m e,n[m]?=O e->w.cell? (s.add m)=O e) (h1:∀e∈n,e.oneCell'=PV)
  (E:a+g<=maxLen) (K:(a+g)*t<=140737488355328) (F:o<=w.heap.size)
  (h:∀q i,i.ownsRow o j d q (a+g) (r++n)->w.grownBy i (O k)->(∀m e,r[m]?=O e->i.cell? ⟨k,m,N⟩=O e)->x (f.put b.dst q) i):if Region.wanted b (yielded y f.tmps)=PV then Oper.wp P b f w x C else B:=by
 have hw:Region.wanted b (yielded y f.tmps)=PV:=by simp[Region.wanted,L]
 rw[ai hw];obtain⟨q,i,V,h2,h3,D⟩:=NN (P:=P) (w:=w) o p b.type j l v d t ht M hz X J ac aa k a u r T s g c n Q R h1 E K F;unfold Oper.wp execOp;simp only[S,resolve,invoke,builtin,Sem.run_bind,Sem.run_pure,ft,fA,bF,dY,W,hx,V];exact h q i h2 h3 D
end
end
section
open Go.RowKit
def Hg(a:Nat)(h:a<2^63):IntKind.i64.wrap (a:Int)=a:=by rw[aU];omega
def Jq(a:Nat)(b:a<2^63):(BitVec.ofInt 64 (a:Int)).toNat=a:=by rw[BitVec.ofInt_natCast,BitVec.toNat_ofNat];omega
def Fu(a b:Nat)(c:a<2^63)(d:b<2^63):bits .or U (a:Int) (b:Int)=((a ||| b:Nat):Int):=by show IntKind.i64.wrap ((BitVec.ofInt 64 (a:Int) ||| BitVec.ofInt 64 (b:Int)).toNat:Int)=_;rw[BitVec.toNat_or,Jq a c,Jq b d,Hg _ (Nat.or_lt_two_pow c d)]
def FP(b c a:Nat)(d:b<2^a):b ||| c*2^a=b+c*2^a:=by rw[Nat.or_comm,dD,<-Nat.two_pow_add_eq_or_of_lt d,Nat.add_comm]
def PY(a:Nat)(h:a<2^63):wrap64 (a:Int)=a:=by unfold wrap64;omega
end
end Go
namespace Go.Proofs.YtgkljcmjnphpeaaGreatDoor
open Go.RowKit
def jY(b:Nat):List Bool:=[b.testBit 0,b.testBit 1,b.testBit 2,b.testBit 3,b.testBit 4,b.testBit 5,b.testBit 6,b.testBit 7]
def gA(a:List Nat):List Bool:=a.flatMap jY
def jC(b:Nat):(jY b).length=8:=rfl
def kN(b:Nat)(a:List Nat):gA (b::a)=jY b++gA a:=by simp[gA]
def qA(a b:List Nat):gA (a++b)=gA a++gA b:=by simp[gA]
def g8(a:List Nat):(gA a).length=8*G a:=by
 induction a with
 |nil=>rfl
 |cons b a c=>rw[kN,ak,jC,c,aj];omega
def gw:List Bool->Nat
 | []=>0
 |b::a=>b.toNat+2*gw a
def gM:Nat->Nat->List Bool
 |0,_=>[]
 |b+1,a=>(a%2==1)::gM b (a/2)
def jI(a b:Nat):(gM a b).length=a:=by
 induction a generalizing b with
 |zero=>rfl
 |succ a c=>simp[gM,c]
def rS(a b:Nat):gw (gM a b)=b%2^a:=by
 induction a generalizing b with
 |zero=>simp[gM,gw,Nat.mod_one]
 |succ a c=>simp only[gM,gw,c];rw[cY,dD (2^a) 2,Nat.mod_mul];rcases dM b with h|h<;>simp[h]
def mI(b:Nat)(h:b<256):gw (jY b)=b:=by
 have:∀b:Fin 256,gw (jY b.val)=b.val:=by decide +kernel
 exact this ⟨b,h⟩
def s7(b:Nat):jY b=gM 8 b:=by simp only[jY,gM,Nat.testBit,Nat.shiftRight_succ,Nat.shiftRight_zero,Nat.one_and_eq_mod_two];simp[Nat.div_div_eq_div_mul]
def jk(a:List Bool):gw a<2^(G a):=by
 induction a with
 |nil=>simp[gw]
 |cons b a c=>simp only[gw,aj,cY];cases b<;>simp<;>omega
def Hi(c:List Nat)(a:Nat)(b:List Bool):Prop:=
 a<8/\G b%8=a/\(∀d∈c,d<256)/\gA c=b++Qf ((8-a)%8) P2
def yv(a:List Nat):List Nat:=(List.range 16).map λk=>if k=0 then 0 else a.count k
def yO(a:List Nat):List Nat:=(List.range 16).flatMap λk=>if k=0 then[]else(List.range (G a)).filter λb=>a.getD b 0==k
def jB(a c:List Nat):Nat->Nat->Nat->Nat->Nat->List Bool->Option (Nat×List Bool)
 |0,_,_,_,_,_=>N
 |_+1,_,_,_,_,[]=>N
 |k+1,len,code,first,place,b::r=>
  if 2*code+b.toNat<2*first+a.getD len 0 then O (c.getD (place+(2*code+b.toNat)-2*first) 0,r)
  else jB a c k (len+1) (2*code+b.toNat) (2*first+a.getD len 0) (place+a.getD len 0) r
def gN(a b:List Nat)(r:List Bool):Option (Nat×List Bool):=jB a b 15 1 0 0 0 r
def Ap(a f:List Nat)(k len code first place:Nat)(r g:List Bool)(e:Nat)(d:List Bool)
  (h:jB a f k len code first place r=O (e,d)):jB a f k len code first place (r++g)=O (e,d++g):=by
 induction k generalizing len code first place r with
 |zero=>simp[jB]at h
 |succ k i=>
  cases r with
  |nil=>simp[jB]at h
  |cons b r=>
   simp only[jB,cP]at h ⊢;by_cases c:2*code+b.toNat<2*first+a.getD len 0
   ·rw[ai c]at h ⊢;simp at h;simp[h.1,h.2]
   ·rw[ah c]at h ⊢;exact i _ _ _ _ _ h
def gS(b:Nat):Nat->List Bool
 |0=>[]
 |a+1=>(b >>> a%2==1)::gS b a
def yt(b:List Nat):List Nat->Nat->Nat->Nat->List (Nat×Nat×Nat)
 | [],_,_,_=>[]
 |c::d,len,gj,place=>((List.range c).map λa=>(b.getD (place+a) 0,2*gj+a,len))++yt b d (len+1) (2*gj+c) (place+c)
def uw(a b:List Nat):List (Nat×Nat×Nat):=yt b a.tail 1 0 0
def AF(b d:List Nat)(c:Nat):List (Nat×Nat):=(uw b d).foldl (λe a=>e.set a.1 (a.2.1,a.2.2)) (Qf c (0,0))
def jE:List Nat:=Qf 144 8++Qf 112 9++Qf 24 7++Qf 8 8
def jD:List Nat:=Qf 32 5
def mX:List Nat:=yv jE
def lZ:List Nat:=yO jE
def oD:List Nat:=yv jD
def mR:List Nat:=yO jD
def tI:List (Nat×Nat):=AF mX lZ 288
def ux(b:List (Nat×Nat))(a:Nat):List Bool:=gS (b.getD a (0,0)).1 (b.getD a (0,0)).2
def zt:∀a:Fin 288,gN mX lZ (ux tI a.val)=O (a.val,[]):=by decide +kernel
def AD(a:Nat)(h:a<288)(r:List Bool):gN mX lZ (ux tI a++r)=O (a,r):=by have:=Ap _ _ _ _ _ _ _ _ r _ _ (zt ⟨a,h⟩);simpa[gN]using this
def gu(a:Nat):Nat×Nat:=
 if a=285 then(258,0)else if a-257<8 then(3+(a-257),0)else(3+(4+(a-257)%4)*2^((a-257)/4-1),(a-257)/4-1)
def gq(a:Nat):Nat×Nat:=if a<4 then(1+a,0)else(1+(2+a%2)*2^(a/2-1),a/2-1)
def iL(a:Nat)(r:List Bool):Option (Nat×List Bool):=if a<=G r then O (gw (r.take a),r.drop a)else N
def iP(b:Nat):Nat->List Nat->List Nat
 |0,a=>a
 |c+1,a=>iP b c (a++[a.getD (G a-b) 0])
def mD(c a:Nat)(b:List Nat):(iP c a b).length=G b+a:=by
 induction a generalizing b with
 |zero=>rfl
 |succ a d=>simp[iP,d];omega
def oE(b a:Nat)(c:List Nat):iP b (a+1) c=iP b a c++[(iP b a c).getD ((iP b a c).length-b) 0]:=by
 induction a generalizing c with
 |zero=>rfl
 |succ a d=>rw[iP,d,iP]
structure iA where
 cs:List Nat
 ss:List Nat
 cd:List Nat
 sd:List Nat
def jJ:iA:=⟨mX,lZ,oD,mR⟩
def qg:jJ.cs=mX:=by simp only[jJ]
def oI:jJ.ss=lZ:=by simp only[jJ]
def qe:jJ.cd=oD:=by simp only[jJ]
def oG:jJ.sd=mR:=by simp only[jJ]
def gY(c:iA)(window most:Nat)(r:List Bool)(b:List Nat):Except Nat (Bool×List Bool×List Nat):=
 match gN c.cs c.ss r with
 |none=>.error 5
 |some (a,r)=>
  if a<256 then if (G b)+1<=most then .ok (PV,r,b++[a])else .error 6
  else if a=256 then .ok (P2,r,b)
  else if 285<a then .error 5
  else match iL (gu a).2 r with
   |none=>.error 5
   |some (f,r)=>match gN c.cd c.sd r with
    |none=>.error 5
    |some (d,r)=>if 29<d then .error 5 else match iL (gq d).2 r with
     |none=>.error 5
     |some (e,r)=>
      if(gq d).1+e<=G b/\(gq d).1+e<=window then
       if (G b)+((gu a).1+f)<=most then .ok (PV,r,iP ((gq d).1+e) ((gu a).1+f) b)else .error 6
      else .error 5
def yD(b:Nat):List Bool:=ux tI b
def yL(b d c:Nat)(h:b<256)(r:List Bool)(a:List Nat):gY jJ d c (yD b++r) a=if (G a)+1<=c then .ok (PV,r,a++[b])else .error 6:=by simp[gY,jJ,yD,AD b Y r,h]
section
section
def gR(c:iA)(window most:Nat)(r:List Bool)(a:List Nat)(f:Except Nat (List Bool×List Nat)):Prop:=
 ∀b:List Bool->List Nat->Except Nat (List Bool×List Nat)->Prop,
  (∀r a g,gY c window most r a=.error g->b r a (.error g)) ->(∀r a e d,gY c window most r a=.ok (P2,e,d)->b r a (.ok (e,d))) ->(∀r a e d f,gY c window most r a=.ok (PV,e,d)->b e d f->b r a f)->b r a f
section
variable{c:iA}{window most:Nat}{r f:List Bool}{b a:List Nat}{d:Except Nat (List Bool×List Nat)}
def gR.err{e:Nat}(h:gY c window most r b=.error e):gR c window most r b (.error e):=λ_ h1 _ _=>h1 _ _ _ h
def gR.stop(h:gY c window most r b=.ok (P2,f,a)):gR c window most r b (.ok (f,a)):=λ_ _ h2 _=>h2 _ _ _ _ h
def gR.more(h:gY c window most r b=.ok (PV,f,a))(k:gR c window most f a d):gR c window most r b d:=λe h1 h2 h3=>h3 _ _ _ _ _ h (k e h1 h2 h3)
def gR.parted(h:gR c window most r b d):(∃g,gY c window most r b=.error g/\d=.error g)\/(∃f a,gY c window most r b=.ok (P2,f,a)/\d=.ok (f,a))\/(∃f a,gY c window most r b=.ok (PV,f,a)/\gR c window most f a d):=
 (h (λr b d=>gR c window most r b d/\((∃g,gY c window most r b=.error g/\d=.error g)\/(∃f a,gY c window most r b=.ok (P2,f,a)/\d=.ok (f,a))\/(∃f a,gY c window most r b=.ok (PV,f,a)/\gR c window most f a d)))
  (λ_ _ g e=>⟨.err e,P3 ⟨g,e,rfl⟩⟩) (λ_ _ f a e=>⟨.stop e,P4 (P3 ⟨f,a,e,rfl⟩)⟩) (λ_ _ f a _ e i=>⟨.more e i.1,P4 (P4 ⟨f,a,e,i.1⟩)⟩)).2
end
def Aq(a g:List Nat)(k len code first place:Nat)(r:List Bool)(f:Nat)(d:List Bool)
  (h:jB a g k len code first place r=O (f,d)):G d<G r:=by
 induction k generalizing len code first place r with
 |zero=>simp[jB]at h
 |succ k e=>
  cases r with
  |nil=>simp[jB]at h
  |cons b r=>
   simp only[jB]at h;by_cases c:2*code+b.toNat<2*first+a.getD len 0
   ·rw[ai c]at h;simp at h;rw[<-h.2];simp
   ·rw[ah c]at h;have:=e _ _ _ _ _ h;simp;omega
def lU{b d:List Nat}{r a:List Bool}{c:Nat}(h:gN b d r=O (c,a)):G a<G r:=Aq _ _ _ _ _ _ _ _ _ _ h
def yR{b c:Nat}{r a:List Bool}(h:iL b r=O (c,a)):G a<=G r:=by unfold iL at h;split at h<;>simp at h;rw[<-h.2];simp
def kI{a c:Nat}{r b:List Bool}(h:iL a r=O (c,b)):a<=G r/\c=gw (r.take a)/\b=r.drop a:=by unfold iL at h;split at h<;>simp at h;exact⟨by assumption,h.1.s,h.2.s⟩
def j4{c:iA}{window most:Nat}{r l:List Bool}{o p:List Nat}{b:Bool}(h:gY c window most r o=.ok (b,l,p)):G l<G r:=by
 unfold gY at h;cases h1:gN c.cs c.ss r with
 |none=>rw[h1]at h;cases h
 |some d=>
  obtain⟨a,q⟩:=d;have k:=lU h1;rw[h1]at h;simp only[]at h;by_cases f:a<256;·rw[ai f]at h;split at h<;>cases h;exact k
  rw[ah f]at h;by_cases g:a=256;·rw[ai g]at h;cases h;exact k
  rw[ah g]at h;by_cases i:285<a;·rw[ai i]at h;cases h
  rw[ah i]at h;cases h2:iL (gu a).2 q with
  |none=>rw[h2]at h;cases h
  |some d=>
   obtain⟨d,s⟩:=d;have v:=yR h2;rw[h2]at h;simp only[]at h;cases h3:gN c.cd c.sd s with
   |none=>rw[h3]at h;cases h
   |some n=>
    obtain⟨m,t⟩:=n;have w:=lU h3;rw[h3]at h;simp only[]at h;by_cases j:29<m;·rw[ai j]at h;cases h
    rw[ah j]at h;cases e:iL (gq m).2 t with
    |none=>rw[e]at h;cases h
    |some u=>
     obtain⟨n,y⟩:=u;have x:=yR e;rw[e]at h;simp only[]at h;split at h;·split at h<;>cases h;omega
     ·cases h
end
end
section
variable{w:Gr}
variable{B i T:Nat}{a:List GI}{j:GI}{d:List Nat}{b:Nat}{f:List Bool}
def uH{w:Gr}{B m e p:Nat}{k:GI}{q:List GI}(h:w.ownsRow B m p k e q)(t:0<e):∃g c,k=Z (O ⟨g,0,N⟩) e c/\B<=g:=by
 rcases h.2 with⟨_,s⟩|⟨g,l,r,o,n,_⟩;·omega
 ·exact⟨g,l,o,n⟩
end
def sG(b:List Nat):Nat->Nat->Nat
 |0,a=>a
 |c+1,a=>if a<G b/\mf (nth b a)=PV then sG b c (a+1)else a
def gh(d:List Nat)(p:Nat):Nat:=sG d (G d-p) p
def J8(c:List Nat):∀b a,a<=sG c b a
 |0,a=>ag _
 |b+1,a=>by
  unfold sG;split;·have:=J8 c b (a+1);omega
  ·exact ag _
def J9(b:List Nat):∀d a,a<=G b->sG b d a<=G b
 |0,a,h=>h
 |d+1,a,h=>by
  unfold sG;split;·rename_i c;exact J9 b d (a+1) Y
  ·exact h
def Av(b:List Nat)(a:Nat):a<=gh b a:=J8 b _ a
def GJ{d:List Nat}{p:Nat}(h:p<=G d):gh d p<=G d:=J9 d _ p h
def vM{d:List Nat}{p:Nat}(h:p<G d)(c:mf (nth d p)=PV):gh d p=gh d (p+1):=by
 unfold gh;obtain⟨a,b⟩:∃a,G d-p=a+1:=⟨G d-p-1,Y⟩;rw[b,show (G d)-(p+1)=a by omega];conv=>lhs;unfold sG
 rw[ai ⟨h,c⟩]
def vL{d:List Nat}{p:Nat}(h:¬(p<G d/\mf (nth d p)=PV)):gh d p=p:=by
 unfold gh;cases (G d)-p with
 |zero=>rfl
 |succ a=>unfold sG;rw[ah h]
def bl(S:ByteArray):List Nat:=S.data.toList.map UInt8.toNat
def mK(S:ByteArray):(bl S).length=S.size:=by rw[bl,aw,eX];rfl
def s8(a:ByteArray)(b:Nat)(h:b<a.size):(a[b]'h).toNat=nth (bl a) b:=by have h2:b<a.data.size:=h;simp only[bl,nth,ax,aY];rw[af (by simpa using h2)];simp;rfl
def lN(a:ByteArray)(b:Nat)(h:b<a.size):nth (bl a) b<256:=by rw[<-s8 a b h];exact UInt8.toNat_lt _
def gU(a:Int):MB:=.panicked [{ v:=.iface 58 (I U a),recovered:=P2 }]
def yh(c:Nat)(b:Gr):K8 Qe 250 #[I .u8 c] b λa d=>a=Ps (OV (mf c))/\d=b:=by
 have a:((c:Int)==0||(c:Int)==9||(c:Int)==10||(c:Int)==12||(c:Int)==13||(c:Int)==32)=mf c:=by rw[bC];simp[mf];omega
 have:=iw c b;rw[a]at this;exact this
def I1(c:Nat)(b:Gr)(h:gI c=N):K8 Qe 275 #[I .u8 c] b λa d=>∃e,a=Ps (OW #[I .u8 e,OV P2])/\d=b:=by
 unfold gI at h;by_cases h1:48<=c/\c<=57;·rw[ai h1]at h;cases h
 rw[ah h1]at h;by_cases h2:97<=c/\c<=102;·rw[ai h2]at h;cases h
 rw[ah h2]at h;by_cases h3:65<=c/\c<=70;·rw[ai h3]at h;cases h
 have f:(decide ((48:Int)<=(c:Int))&&decide ((c:Int)<=57))=P2:=eB;have g:(decide ((97:Int)<=(c:Int))&&decide ((c:Int)<=102))=P2:=eB;have i:(decide ((65:Int)<=(c:Int))&&decide ((c:Int)<=70))=P2:=eB;clear h h1 h2 h3;go_enter func275,fR;go_wp2_with (go_at_call 216;apply(yT _ _ _ _).m;rintro a d ⟨rfl,rfl⟩)
 go_ret2
 exact⟨_,rfl,rfl⟩
def vH{c a:Nat}(h:gI c=O a):a<16:=by
 unfold gI at h;split at h;·cases h;omega
 split at h;·cases h;omega
 split at h;·cases h;omega
 ·cases h
def E8(a:ByteArray)(k:Nat):bl (a.extract k a.size)=(bl a).drop k:=by unfold bl;rw[ByteArray.data_extract,Array.toList_extract,List.extract_eq_take_drop,List.map_take,List.map_drop];rw[bD (by rw[au,aw,eX];exact ag _)]
def bp(b:ByteArray)(k a:Nat)(h:k+a<=b.size):bl (b.extract k (k+a))=((bl b).drop k).take a:=by unfold bl;rw[ByteArray.data_extract,Array.toList_extract,List.extract_eq_take_drop,List.map_take,List.map_drop];rw[show k+a-k=a by omega]
def ap(b c a:Nat):(⟨b,c,N⟩:L2).add a=⟨b,c+a,N⟩:=by unfold Addr.add;split<;>simp_all
def CU{g:Gr}{a c e f k:Nat}{b:GI}{i:List GI}(h:g.ownsRow a c f b e i)(j:k<a):O k≠b.ownBlock:=λd=>absurd (h.lt k d.s).1 Y
def rX.below{w:Gr}{B:Nat}{a:Option L2}{e:List Nat}{g:Gr}(h:rX w B a e)(b:LT w.heap.size w g):rX g B a e:=by intro d i;obtain⟨c,f,h1,h2,h3⟩:=h d i;exact⟨c,f,h1,h2,(b.cell (p:=⟨c,f+d,N⟩) (aC w _ h3)).t h3⟩
def rX.other{w w':Gr}{B:Nat}{a:Option L2}{l:List Nat}(h:rX w B a l)(c:∀k,k<B->w'.heap[k]?=w.heap[k]?):rX w' B a l:=by intro i d;obtain⟨b,e,h1,h2,h3⟩:=h i d;exact⟨b,e,h1,h2,by rw[World.cell?_of_block (w:=w) (c b h2)];exact h3⟩
section
variable{B:Nat}{w:Gr}
def ge(a:List Nat):ByteArray:=⟨(a.map UInt8.ofNat).toArray⟩
def IW:∀(a:List Nat) (r:ByteArray),(a.map (λd:Nat=>(d:Int))).foldl (λr c=>r.push (UInt8.ofNat c.toNat)) r=⟨r.data++(a.map UInt8.ofNat).toArray⟩
 | [],r=>eA
 |b::a,r=>by simp only[bF,eJ];rw[IW a];simp[ByteArray.push]
def AC(d:L2)(e:Nat)(a:List Nat)(i:∀c,c<G a->w.cell? (d.add c)=O (I .u8 (nth a c:Nat))):(convert 23 9 (Z (O d) (G a) e)).run Qe w=.ok (MV (ge a)) w:=by
 rw[fh w 23 9 5 (O d) (G a) e bB fE dJ];have h:=run_loadCells_list (P:= Qe) w d ((a.map (λb:Nat=>(b:Int))).map (I .u8)) (λc k f=>by
  have g:c<G a:=by have:=(cH.1 f).1;simpa using this
  rw[i c g];simp[af g]at f;rw[<-f];simp[nth,af g])
 simp only[aw]at h;rw[run_bytesToString w d (G a) e _ h,IW];have j:ByteArray.empty.data=#[]:=rfl;rw[j];simp[ge]
def yP{g:GI}{l:List Nat}(h:w.ownsRow B 5 1 g (G l) (l.map λm:Nat=>I .u8 (m:Int))):(convert 23 9 g).run Qe w=.ok (MV (ge l)) w:=by
 rcases eg (G l) with e|e
 ·obtain⟨i,c,rfl⟩:=jp h;have k:=bM.1 e;subst k;cases i with
  |none=>show(convert 23 9 (Z N 0 c)).run Qe w=_;rw[fh w 23 9 5 N 0 c bB fE dJ];rfl
  |some a=>exact AC a c [] (λd b=>by cases b)
 ·obtain⟨j,c,rfl,_⟩:=uH h e;refine AC ⟨j,0,N⟩ c l (λd b=>?_);have f:=h.cellAt d Y;rw[aY,af b]at f;simp only[aZ]at f;rw[pR];rw[show nth l d=l[d]by simp[nth,af b]];simpa using f
def uN(a:ByteArray):ge (bl a)=a:=by
 unfold ge bl;rw[fH];have:(UInt8.ofNat ∘ UInt8.toNat)=id:=by funext b;simp
 rw[this,List.map_id,Array.toArray_toList]
end
end Go.Proofs.YtgkljcmjnphpeaaGreatDoor
namespace Go
section
section
variable{P:Program}{b:Array Oper}{Q:Exit->MN->Gr->Prop}{c:Region.Mode}{S:Array Bool->Gr->Prop}
def xn{i j:Nat}{m n:Oper}{o:Nat}{f:Array Bool}{d:MN}{a:Gr}(r:Region.ready c b f=[i,j])(w:b[i]?=O m)(x:b[j]?=O n)(v:mw c b f)
  (h:∀e:MN->Gr->Prop,Shut (∀d a,S (f.setIfInBounds i PV) a->(mw c b (f.setIfInBounds i PV)->S (f.setIfInBounds i PV) a->qY P c b Q S o (f.setIfInBounds i PV) d a)->e d a)->if Region.wanted m (yielded b d.tmps)=PV then Oper.wp P m d a e Q else e (d.put m.dst undef) a)
  (u:∀e:MN->Gr->Prop,Shut (∀d a,S (f.setIfInBounds j PV) a->(mw c b (f.setIfInBounds j PV)->S (f.setIfInBounds j PV) a->qY P c b Q S o (f.setIfInBounds j PV) d a)->e d a)->if Region.wanted n (yielded b d.tmps)=PV then Oper.wp P n d a e Q else e (d.put n.dst undef) a):qY P c b Q S (o+1) f d a:=by
 refine⟨λs=>(by rw[r]at s;cases s),λk l=>?_⟩;rw[r]at l;have t:=v.set (i:=k) (by rw[r];exact l);rcases cQ.1 l with rfl|l;·exact wpOp_step w (λe p=>h e (λd a g q=>p d a ⟨g,q t g⟩))
 ·obtain rfl:=cU.1 l;exact wpOp_step x (λe p=>u e (λd a g q=>p d a ⟨g,q t g⟩))
end
end
end Go
namespace Go.Proofs.YtgkljcmjnphpeaaGreatDoor
open Go.RowKit
def ye(a:List Nat):(ge a).size=G a:=by unfold ge;simp[ByteArray.size]
def n9(c:Nat):Bool:=c==40||c==41||c==60||c==62||c==91||c==93||c==123||c==125||c==47||c==37
def pB(c:Nat):Bool:= !mf c && !n9 c
def je:Bool->List Nat->List Nat
 |_,[]=>[]
 |false,b::r=>if mf b then je P2 r else if b=37 then je PV r else b::r
 |true,b::r=>if b=10\/b=13 then je P2 r else je PV r
def f9(r:List Nat):List Nat:=je P2 r
def gX:List Nat->List Nat
 | []=>[]
 |b::r=>if b=10\/b=13 then b::r else gX r
def f_(s r:List Nat):Option (List Nat):=if s.isPrefixOf r then O (r.drop (G s))else N
def gn(r:List Nat):List Nat:=(f9 r).takeWhile pB
def gm(r:List Nat):List Nat:=(f9 r).dropWhile pB
def gg(s r:List Nat):Option (List Nat):=if gn r=s then O (gm r)else N
def gJ(r:List Nat):Option (List Nat):=(f_ [13,10] r).or ((f_ [10] r).or (f_ [13] r))
def rN:∀(b:Bool) (r:List Nat),(je b r).length<=G r
 |b,[]=>by cases b<;>simp[je]
 |false,a::r=>by
  simp only[je];have h1:=rN P2 r;have h2:=rN PV r;split;·simp only[aj];omega
  ·split;·simp only[aj];omega
   ·exact ag _
 |true,a::r=>by simp only[je];have h1:=rN P2 r;have h2:=rN PV r;split<;>simp only[aj]<;>omega
def iz(r:List Nat):(f9 r).length<=G r:=rN P2 r
def mZ:∀r:List Nat,(gX r).length<=G r
 | []=>ag _
 |b::r=>by
  have:=mZ r;simp only[gX];split;·exact ag _
  ·simp only[aj];omega
def vr:∀r:List Nat,je PV r=je P2 (gX r)
 | []=>rfl
 |b::r=>by
  simp only[je,gX];by_cases h:b=10\/b=13
  ·rw[ai h,ai h];have a:mf b=PV:=by rcases h with rfl|rfl<;>rfl
   simp only[je,a,if_true]
  ·rw[ah h,ah h];exact vr r
def nY:∀r:List Nat,f9 r=f9 (r.dropWhile mf)
 | []=>rfl
 |b::r=>by
  unfold f9;rw[bP];cases h:mf b;·rfl
  ·simp only[je,h,if_true];exact nY r
def oQ(r:List Nat):f9 (37::r)=f9 (gX r):=by unfold f9;rw[<-vr];simp[je,show mf 37=P2 from rfl]
def oM{b:Nat}{r:List Nat}(h1:mf b=P2)(h2:b≠37):f9 (b::r)=b::r:=by unfold f9;simp[je,h1,h2]
def gD{s r b:List Nat}(h:f_ s r=O b):G b+G s=G r/\r.drop (G s)=b:=by
 unfold f_ at h;by_cases a:s.isPrefixOf r=PV
 ·rw[ai a]at h;have:=(eU.1 a).length_le;cases h;exact⟨by rw[au];omega,rfl⟩
 ·rw[ah a]at h;cases h
def lx{p:Nat->Bool}(r:List Nat):(r.dropWhile p).length<=G r:=(cW p).length_le
section
structure gB(b:Nat)(w w':Gr):Prop where
 os:w'.os=w.os
 tape:w'.tape=w.tape
 output:w'.output=w.output
 size:w.heap.size<=w'.heap.size
 block:∀k,k<w.heap.size->k≠b->w'.heap[k]?=w.heap[k]?
def gB.refl(b:Nat)(w:Gr):gB b w w:=⟨rfl,rfl,rfl,ag _,λ_ _ _=>rfl⟩
def gB.t{b:Nat}{d y e:Gr}(h:gB b d y)(k:gB b y e):gB b d e:=
 ⟨k.os.t h.os,k.tape.t h.tape,k.output.t h.output,aA h.size k.size,λi c a=>(k.block i (aQ c h.size) a).t (h.block i c a)⟩
def gB.of_below{b:Nat}{w a:Gr}(h:LT w.heap.size w a):gB b w a:=⟨h.os,h.tape,h.output,h.size,λd c _=>h.block d c⟩
def gB.drewN{b:Nat}{w a:Gr}(h:gB b w a)(n:Nat):gB b w (a.drewN n):=⟨h.os,h.tape,h.output,h.size,h.block⟩
def gB.setCell{b:Nat}{w w':Gr}(h:gB b w w')(i:Nat)(v:GI):gB b w (w'.setCell ⟨b,i,N⟩ v):=
 h.t ⟨rfl,rfl,rfl,by simp[World.setCell],λk _ a=>kW _ a⟩
def gB.below{b B:Nat}{w a:Gr}(h:gB b w a)(c:B<=w.heap.size)(d:B<=b):LT B w a :=
 ⟨h.os,h.tape,h.output,h.size,λk e=>h.block k Y Y⟩
structure Sc(B bs:Nat)(ao:Option L2)(cap:Nat)(data:List Nat)(d f g:GI)(w:Gr)(r:List Nat):Prop where
 hb:B<=bs
 blk:w.heap[bs]?=O (Pp #[Z ao (G data) cap,I U (G data-G r:Nat),d,f,g] 131 (0,0))
 dat:rX w B ao data
 byt:∀i,i<G data->nth data i<256
 len:G data<=200000
 lc:G data<=cap/\cap<=9223372036854775807
 le:G r<=G data
 suf:data.drop (G data-G r)=r
 ad:∃bd o,ao=O ⟨bd,o,N⟩/\bd<B
variable{B bs cap:Nat}{ao:Option L2}{data:List Nat}{d f g:GI}{w w':Gr}{r q:List Nat}
def Sc.c0(h:Sc B bs ao cap data d f g w r):w.cell? ⟨bs,0,N⟩=O (Z ao (G data) cap):=iI h.blk
def Sc.c1(h:Sc B bs ao cap data d f g w r):w.cell? ⟨bs,1,N⟩=O (I U (G data-G r:Nat)):=iI h.blk
def Sc.fz(h:Sc B bs ao cap data d f g w r)(i:Nat):w.frozen? ⟨bs,i,N⟩=P2:=nG h.blk
def Sc.lt(h:Sc B bs ao cap data d f g w r):bs<w.heap.size:=ae h.blk
def Sc.other(h:Sc B bs ao cap data d f g w r)(b:LT w.heap.size w w'):Sc B bs ao cap data d f g w' r:=
 ⟨h.hb,by rw[b.block _ h.lt];exact h.blk,h.dat.below b,h.byt,h.len,h.lc,h.le,h.suf,h.ad⟩
def Sc.drewN(h:Sc B bs ao cap data d f g w r)(n:Nat):Sc B bs ao cap data d f g (w.drewN n) r:=⟨h.hb,h.blk,h.dat,h.byt,h.len,h.lc,h.le,h.suf,h.ad⟩
def Sc.at_(h:Sc B bs ao cap data d f g w r)(a:Nat)(l:a<=G data):Sc B bs ao cap data d f g (w.setCell ⟨bs,1,N⟩ (I U a)) (data.drop a):=by
 have k:=h.hb;refine⟨h.hb,?_,?_,h.byt,h.len,h.lc,by rw[au];omega,by rw[au,show (G data)-(G data-a)=a by omega],h.ad⟩;·rw[lV _ h.blk,au,show (G data)-(G data-a)=a by omega];rfl
 ·intro i e;obtain⟨b,j,e1,e2,c⟩:=h.dat i e;exact⟨b,j,e1,e2,by rw[Cf _ (by show bs≠b;omega)];exact c⟩
def Sc.set(h:Sc B bs ao cap data d f g w r)(q:List Nat)(k:Nat)(b:r.drop k=q)(c:k<=G r)(p:Nat)(a:p=G data-G r+k):Sc B bs ao cap data d f g (w.setCell ⟨bs,1,N⟩ (I U p)) q:=by have e:=h.le;have:=h.at_ p Y;rw[a,<-di,h.suf,b]at this;rw[a];exact this
def Sc.nthOf(h:Sc B bs ao cap data d f g w r)(a:Nat)(b:a<G r):nth r a=nth data (G data-G r+a):=by
 unfold nth;rw[ax,ax];conv=>lhs;rw[<-h.suf]
 rw[dz]
def Sc.cons{b:Nat}{a:List Nat}(h:Sc B bs ao cap data d f g w (b::a)):G data-(b::a).length<G data/\nth data (G data-(b::a).length)=b/\b<256/\∃c e,ao=O ⟨c,e,N⟩/\c<B/\w.cell? ⟨c,e+(G data-(b::a).length),N⟩=O (I .u8 (b:Nat)):=by
 have m:=h.le;have k:=h.nthOf 0 eA;have j:G data-(b::a).length<G data:=by simp only[aj]at m ⊢;omega
 have i:nth data (G data-(b::a).length)=b:=by rw[dZ]at k;rw[<-k];rfl
 obtain⟨c,e,e1,e2,l⟩:=h.dat _ j;refine⟨j,i,by rw[<-i];exact h.byt _ j,c,e,e1,e2,by rw[l,i]⟩
def xz(h:Sc B bs ao cap data d f g w r):K8 Qe 190 #[M2 (O ⟨bs,0,N⟩)] w λa w'=>a=Ps (I U (G r:Nat))/\∃b,w'=w.drewN b:=by
 have c:=h.c0;have e:=h.c1;have i:=h.le;have j:=h.len;have e1:((G data:Int)-((G data-G r:Nat):Int))=((G r:Nat):Int):=Y;generalize (G data)-G r=k at *
 go_in
 go_wp2_with fail;go_quiet (fail);go_wp2;go_ret;exact⟨rfl,nq,rfl⟩
def ng(a b:ByteArray):(a.toList==b.toList)=decide (a=b):=by rw[bC,beq_iff_eq,cm,de,de];exact⟨λh=>e_ (Array.toList_inj.1 h),λh=>by rw[h]⟩
def Br(a r:List Nat):a.isPrefixOf r=decide (G a<=G r/\r.take (G a)=a):=by
 rw[bC,eU,cm];constructor
 ·intro h;exact⟨h.length_le,(List.prefix_iff_eq_take.1 h).s⟩
 ·rintro⟨_,h⟩;exact List.prefix_iff_eq_take.2 h.s
def Bx{e b:List Nat}(j:∀a∈e,a<256)(k:∀a∈b,a<256)(h:ge e=ge b):e=b:=by
 have h1:(e.map UInt8.ofNat)=(b.map UInt8.ofNat):=by unfold ge at h;simpa using h
 have i:∀c:List Nat,(∀a∈c,a<256)->(c.map UInt8.ofNat).map UInt8.toNat=c:=λc l=>by rw[fH];have:c.map (UInt8.toNat ∘ UInt8.ofNat)=c.map id:=List.map_congr_left (λa m=>by simp[ed (l a m)]);simpa using this
 rw[<-i e j,<-i b k,h1]
def Sc.bytes(h:Sc B bs ao cap data d f g w r):∀c∈r,c<256:=by intro c b;rw[<-h.suf]at b;have e:=dA b;obtain⟨i,a,rfl⟩:=cK e;have:=h.byt i a;simpa[nth,a]using this
def xH(b:ByteArray):∀c∈bl b,c<256:=by intro c e;obtain⟨h,a,rfl⟩:=cK e;have:=lN b h (by rw[<-mK];exact a);simpa[nth,a]using this
def Sc.str(h:Sc B bs ao cap data d f g w r)(n c:Nat)(p:0<n)(s:n<=G r){b i:Nat}(m:ao=O ⟨b,i,N⟩)(e:Nat):(convert 23 9 (Z (O ⟨b,i+(G data-G r),N⟩) n c)).run Qe (w.drewN e)=.ok (MV (ge (r.take n))) (w.drewN e):=by
 have k:(r.take n).length=n:=by rw[ay];omega
 have:=AC (w:=w.drewN e) ⟨b,i+(G data-G r),N⟩ c (r.take n) (λa j=>by
  rw[k]at j;obtain⟨o,t,e1,e2,l⟩:=h.dat (G data-G r+a) (by have:=h.le;omega);rw[m]at e1;cases e1;have e4:nth (r.take n) a=nth data (G data-G r+a):=by rw[<-h.nthOf a Y];unfold nth;rw[ax,ax,c_ j]
  rw[e4,ap,dQ];exact l)
 rw[k]at this;exact this
def EM(h:Sc B bs ao cap data d f g w r)(a:ByteArray)(p:0<a.size)(P:a.size<=1000000):K8 Qe 138 #[M2 (O ⟨bs,0,N⟩),MV a] w λi w'=>i=Ps (OV ((bl a).isPrefixOf r))/\∃m,w'=w.drewN m:=by
 have e:=H h;have x:=h.c0;have y:=h.c1;have J:=h.le;have L:=h.len;obtain⟨K,E⟩:=h.lc;clear h;by_cases l:a.size<=G r
 ·have t1:decide ((a.size:Int)<=(G r:Int))=PV:=eB;obtain⟨k,j,rfl,_⟩:∃k j,ao=O ⟨k,j,N⟩/\k<B:=by obtain⟨b,j,e1,e2,_⟩:=e.o.dat 0 Y;exact⟨b,j,e1,e2⟩
  have F:=λm=>e.str a.size (cap-(G data-G r)) p l rfl m;have o:L1 (decide (ge (r.take a.size)=a)=(bl a).isPrefixOf r):=by
   unfold Hid;rw[Br,cJ,mK];constructor
   ·intro i;exact⟨l,Bx (λn u=>e.bytes n (dj u)) (xH a) (i.t (uN a).s)⟩
   ·rintro⟨_,i⟩;rw[i,uN]
  generalize s:ge (r.take a.size)=v at *;clear s;have M:(G data-G r)+a.size<=G data:=Y;generalize (G data)-G r=c at *;have Q:IntKind.i64.wrap ((c:Int)+(a.size:Int))=((c+a.size:Nat):Int):=by rw[aU];omega
  have z:(0:Int)<=(c:Int)+(a.size:Int):=Y;have A:(c:Int)+(a.size:Int)<=(cap:Int):=Y;have C:((c:Int)+(a.size:Int)).toNat=c+a.size:=Y;have D:¬cap=c:=Y
  go_in
  go_wp2_with fail;go_quiet ((go_at_call 190;exact eT (xz (e.drewN _))));go_wp2;go_ret;exact⟨by rw[<-o.o,<-ng];rfl,nq,rfl⟩
 ·have t1:decide ((a.size:Int)<=(G r:Int))=P2:=eB;have t:(bl a).isPrefixOf r=P2:=by rw[Br,bk,mK];exact λn=>l n.1
  rw[t];generalize (G data)-G r=c at *
  go_in
  go_wp2_with fail;go_quiet ((go_at_call 190;exact eT (xz (e.drewN _))));go_wp2;go_ret;exact⟨rfl,nq,rfl⟩
def takes_none{a r:List Nat}(h:a.isPrefixOf r=P2):f_ a r=N:=by unfold f_;rw[h];rfl
def takes_some{a r:List Nat}(h:a.isPrefixOf r=PV):f_ a r=O (r.drop (G a)):=by unfold f_;rw[h];rfl
def BV(B bs:Nat)(ao:Option L2)(cap:Nat)(data:List Nat)(d f g:GI)(w:Gr)(r:List Nat)(a:Option (List Nat))(b:MB)(w':Gr):Prop:=
 b=Ps (OV a.isSome)/\Sc B bs ao cap data d f g w' (a.getD r)/\gB bs w w'
def vt(h:Sc B bs ao cap data d f g w r)(a:ByteArray)(m:0<a.size)(n:a.size<=1000000):K8 Qe 136 #[M2 (O ⟨bs,0,N⟩),MV a] w (BV B bs ao cap data d f g w r (f_ (bl a) r)):=by
 have e:=H h;have u:=h.le;have v:=h.len;have i:=H (EM h a m n);clear h;cases c:(bl a).isPrefixOf r
 ·rw[c]at i;rw[takes_none c]
  go_in
  go_wp2_with fail;apply i.o.m;rintro l p ⟨rfl,b,rfl⟩;go_wp2;go_ret;exact⟨rfl,e.drewN b,(gB.refl _ _).drewN b⟩
 ·rw[c]at i;rw[takes_some c];have j:=(eU.1 c).length_le;rw[mK]at j;have k:L1 (∀b,Sc B bs ao cap data d f g ((w.drewN b).setCell ⟨bs,1,N⟩ (I U (G data-G r+a.size:Nat))) (r.drop (bl a).length)):=λb=>(e.drewN b).set _ a.size (by rw[mK]) j _ rfl
  have s:=e.o.c1;have t:=e.o.fz 1;have x:(G data-G r)+a.size<=G data:=Y;clear c;generalize (G data)-G r=y at *
  go_in
  go_wp2_with fail;apply i.o.m;rintro l p ⟨rfl,b,rfl⟩;go_wp2;go_ret;exact⟨rfl,k b,((gB.refl _ _).drewN b).setCell _ _⟩
def oe(w:Gr):K8 Qe 99 #[OV PV] w λa w'=>a=Ps (OW #[])/\w'=w:=by
 go_in
 go_wp2
 go_end0
 exact⟨rfl,rfl⟩
def nZ(w:Gr):K8 Qe 99 #[OV P2] w λa w'=>a=gU 4/\w'=w:=by
 unfold gU
 go_in
 go_wp2;exact⟨rfl,rfl,rfl⟩
end
section
variable{B cap:Nat}{ao:Option L2}{d:List Nat}{w:Gr}{p:Nat}
def Ki(J:rX w B ao d)(L:G d<=cap)(M:cap<=9223372036854775807)(Q:p<=G d):K8 Qe 188 #[Z ao (G d) cap,I U p] w λg f=>g=Ps (I U (gh d p:Nat))/\f=w:=by
 have l:=H J
 go_in
 go_wp2;refine wp_scope_jumps 0 (λi f=>f=w/\∃(b:Nat) (m n q r s t u v x y z A C D:GI),i={ tmps:=#[Z ao (G d) cap,I U b,undef,undef,I U 0,m,n,q,r,s,t,u,v,x,y,z,A,C,D],defers:=[]}/\b<=G d/\L1 (gh d b=gh d p)) (λi _=>G d-(intOf (i.tmps.getD 1 undef)).toNat) rfl ?_ ?_
 ·by_cases c:p<G d
  ·have k:(p:Int)<G d:=Y;obtain⟨E,K,rfl,_,F⟩:=l.o p c;cases e:mf (nth d p)
   ·have a:=vL (λh=>by rw[e]at h;cases h.2);go_wp2
    go_step3
    go_wp2_with (go_at_call 250;apply(yh _ _).m;rintro g f ⟨rfl,rfl⟩;rw[e]);simp only[Exit.jump];go_ret;exact⟨by rw[a];rfl,rfl⟩
   ·have a:=vM c e;go_wp2
    go_step3
    go_wp2_with (go_at_call 250;apply(yh _ _).m;rintro g f ⟨rfl,rfl⟩;rw[e])
    go_step3
    refine⟨rfl,rfl,p+1,_,_,_,_,_,_,_,_,_,_,_,_,_,_,rfl,Y,a.s⟩
  ·have k:¬(p:Int)<G d:=Y;have a:=vL (λh=>c h.1);go_wp2
   go_step3
   go_wp2;simp only[Exit.jump];go_ret;exact⟨by rw[a];rfl,rfl⟩
 ·rintro i f ⟨rfl,b,m,n,q,r,s,t,u,v,x,y,z,A,C,D,rfl,P,j⟩;by_cases c:b<G d
  ·have k:(b:Int)<G d:=Y;obtain⟨E,K,rfl,_,F⟩:=l.o b c;cases e:mf (nth d b)
   ·have a:=vL (λh=>by rw[e]at h;cases h.2);go_wp2_with (go_at_call 250;apply(yh _ _).m;rintro g f ⟨rfl,rfl⟩;rw[e]);simp only[Exit.jump];go_ret;exact⟨by rw[<-j.o,a];rfl,rfl⟩
   ·have a:=vM c e;go_wp2_with (go_at_call 250;apply(yh _ _).m;rintro g f ⟨rfl,rfl⟩;rw[e])
    go_step3
    refine⟨rfl,⟨rfl,b+1,_,_,_,_,_,_,_,_,_,_,_,_,_,_,rfl,Y,a.s.t j⟩,?_⟩;simp[intOf];omega
  ·have k:¬(b:Int)<G d:=Y;have a:=vL (λh=>c h.1);go_wp2;simp only[Exit.jump];go_ret;exact⟨by rw[<-j.o,a];rfl,rfl⟩
def Cn{d:List Nat}{p:Nat}(h:p<G d):d.drop p=nth d p::d.drop (p+1):=by rw[aW h];simp[nth,h]
def II(d:List Nat):∀(k p:Nat),G d-p=k->d.drop (gh d p)=(d.drop p).dropWhile mf
 |0,p,h=>by rw[vL (λc=>Y),bS Y];rfl
 |k+1,p,h=>by
  have a:p<G d:=Y;rw[Cn a,bP];cases b:mf (nth d p);·rw[vL (λc=>by rw[b]at c;cases c.2),Cn a];rfl
  ·rw[vM a b,II d k (p+1) Y];rfl
def lA(d:List Nat)(p:Nat):Nat:=G d-(gX (d.drop p)).length
def Pz{a d:List Nat}(h:a <:+ d):d.drop (G d-G a)=a:=by obtain⟨b,rfl⟩:=h;rw[ak,fK,List.drop_left]
def Gy:∀r:List Nat,gX r <:+ r
 | []=>eH _
 |b::r=>by
  simp only[gX];split;·exact eH _
  ·exact(Gy r).t (eV b r)
def I_{d:List Nat}{p:Nat}(a:p<G d)(h:nth d p=10\/nth d p=13):lA d p=p:=by unfold lA;rw[Cn a,gX,ai h,<-Cn a,au];omega
def Mh{d:List Nat}{p:Nat}(b:¬p<G d)(a:p<=G d):lA d p=p:=by unfold lA;rw[bS Y];simp[gX];omega
def Mi{d:List Nat}{p:Nat}(a:p<G d)(h:¬(nth d p=10\/nth d p=13)):lA d (p+1)=lA d p:=by unfold lA;rw[Cn a,gX,ah h]
def Mo(q:rX w B ao d)(v:G d<=cap)(x:cap<=9223372036854775807)(s:p<=G d):K8 Qe 189 #[Z ao (G d) cap,I U p] w λl t=>l=Ps (I U (lA d p:Nat))/\t=w:=by
 have n:=H q;generalize m:lA d p=i at *;have h:=H m
 go_in
 go_wp2;go_loopw [1] (λf wr=>∃k:Nat,k<=G d/\f=I U k/\L1 (lA d k=i)/\wr=w) (λf _=>G d-(intOf f).toNat)
 case atStart=>exact⟨p,s,rfl,h,rfl⟩
 case round=>
  obtain⟨k,r,rfl,b,rfl⟩:=hrel;by_cases c:k<G d
  ·have j:(k:Int)<G d:=Y;obtain⟨y,C,rfl,_,g⟩:=n.o k c;by_cases h1:nth d k=10
   ·have e:=I_ c (P3 h1);have a:=H (e.s.t b);rw[h1]at g;go_wp2;go_ret;exact⟨by rw[<-a.o];rfl,rfl⟩
   ·by_cases h2:nth d k=13
    ·have e:=I_ c (P4 h2);have a:=H (e.s.t b);rw[h2]at g;go_wp2;go_ret;exact⟨by rw[<-a.o];rfl,rfl⟩
    ·have a:=H ((Mi c (λu=>u.elim h1 h2)).t b);have z:((nth d k:Int) != 10)=PV:=eB;have A:((nth d k:Int) != 13)=PV:=eB;generalize nth d k=D at *;go_wp2;go_roundw
     case rel=>exact⟨k+1,Y,by go_num,a,trivial⟩
     case measure=>simp[intOf];omega
  ·have j:¬(k:Int)<G d:=Y;have a:=H ((Mh c r).s.t b);go_wp2;go_ret;exact⟨by rw[<-a.o];rfl,rfl⟩
end
section
variable{B g cap:Nat}{ao:Option L2}{f:List Nat}{u y z:GI}{w w':Gr}{r q:List Nat}
def posS(g:Nat)(w:Gr):Nat:=(intOf ((w.cell? ⟨g,1,N⟩).getD undef)).toNat
def Sc.posS(h:Sc B g ao cap f u y z w r):posS g w=G f-G r:=by unfold Go.Proofs.YtgkljcmjnphpeaaGreatDoor.posS;rw[h.c1];simp[intOf]
def wj(a:UInt8):bl {data:=#[a]}=[a.toNat]:=rfl
def I5{r:List Nat}(h:([37]:List Nat).isPrefixOf r=PV):∃a,r=37::a:=by
 cases r with
 |nil=>cases h
 |cons b a=>simp[List.isPrefixOf]at h;exact⟨a,by rw[h]⟩
def I6{r:List Nat}(h:([37]:List Nat).isPrefixOf r=P2)(e:∀b a,r=b::a->mf b=P2):f9 r=r:=by
 cases r with
 |nil=>rfl
 |cons c a=>refine oM (e c a rfl) (λd=>?_);subst d;simp[List.isPrefixOf]at h
def Ch{p:Nat->Bool}:∀(r:List Nat) (b:Nat) (a:List Nat),r.dropWhile p=b::a->p b=P2
 | [],b,a,h=>by cases h
 |d::r,b,a,h=>by
  rw[bP]at h;cases c:p d;·rw[c]at h;cases h;exact c
  ·rw[c]at h;exact Ch r b a h
def Sc.white(h:Sc B g ao cap f u y z w r):K8 Qe 188 #[Z ao (G f) cap,I U (G f-G r:Nat)] w.drew λa w'=>a=Ps (I U (G f-(r.dropWhile mf).length:Nat))/\w'=w.drew:=by have b:=h.le;have k:=Ki (w:=w.drew) (B:=B) (p:=G f-G r) (h.dat.other (λ_ _=>rfl)) h.lc.1 h.lc.2 Y;apply k.m;rintro a w' ⟨rfl,rfl⟩;have a:=II f _ (G f-G r) rfl;rw[h.suf]at a;rw[<-a,au];have:=GJ (d:=f) (p:=G f-G r) Y;rw[show (G f)-(G f-gh f (G f-G r))=gh f (G f-G r)by omega];exact⟨rfl,rfl⟩
def Sc.line(h:Sc B g ao cap f u y z w r):K8 Qe 189 #[Z ao (G f) cap,I U (G f-G r:Nat)] w.drew λa w'=>a=Ps (I U (G f-(gX r).length:Nat))/\w'=w.drew:=by have b:=h.le;have k:=Mo (w:=w.drew) (B:=B) (p:=G f-G r) (h.dat.other (λ_ _=>rfl)) h.lc.1 h.lc.2 Y;apply k.m;rintro a w' ⟨rfl,rfl⟩;unfold lA;rw[h.suf];exact⟨rfl,rfl⟩
def Sc.drew(h:Sc B g ao cap f u y z w r):Sc B g ao cap f u y z w.drew r:=h.drewN 1
def Sc.go(h:Sc B g ao cap f u y z w r)(a:q <:+ r):Sc B g ao cap f u y z (w.setCell ⟨g,1,N⟩ (I U (G f-G q:Nat))) q:=by have c:=h.le;have d:=a.length_le;have:=h.at_ (G f-G q) Y;have b:=Pz (a.t (by rw[<-h.suf];exact List.drop_suffix _ _));rw[b]at this;exact this
def EN(h:Sc B g ao cap f u y z w r):K8 Qe 137 #[M2 (O ⟨g,0,N⟩)] w λl w'=>l=Ps (OW #[])/\Sc B g ao cap f u y z w' (f9 r)/\gB g w w':=by
 have v:=H h;have hn:=h.len;generalize E:f9 r=D at *;have HR:=H E
 go_in
 go_wp2;refine wp_scope_jumps 0 (λa' w'=>∃(q:List Nat) (y2 y3 y4 y5 y6 y7 y8 y9 ad al a0 a1 a2 a3 a4 a5 a6 a7 a8 a9 ba bb bc bd bf bi:GI),a'={ tmps:=#[M2 (O ⟨g,0,N⟩),undef,y2,y3,y4,y5,y6,y7,y8,y9,ad,al,a0,a1,a2,a3,a4,a5,a6,a7,a8,a9,ba,bb,bc,bd,bf,bi],defers:=[]}/\L1 (Sc B g ao cap f u y z w' q)/\L1 (f9 q=D)/\L1 (gB g w w')) (λ_ w'=>G f-posS g w') rfl ?_ ?_
 ·have c0:=v.o.c0;have P:=v.o.c1;have f1:=v.o.fz 1;have br:=v.o.le;have s:=H v.white;have j:=H ((v.go (cW mf)).drew);have M:L1 (∀b a,r.dropWhile mf=b::a->mf b=P2):=Ch r;have C:=H (nY r);have R:=lx (p:=mf) r;have n:L1 (gB g w (w.setCell ⟨g,1,N⟩ (I U (G f-(r.dropWhile mf).length:Nat))).drew):=((gB.refl g w).setCell _ _).drewN 1;generalize r.dropWhile mf=i at *;have bv:G f-G i<=200000:=Y;have HP:=H (show (G f)-G r<=G f-G i by omega);generalize hp:G f-G r=V at P s;generalize T:G f-G i=W at s j n;have bo:=H T;go_wp2_with fail
  go_step3
  go_wp2_with fail;go_region_with (go_at_call 188;apply s.o.m;rintro l w' ⟨rfl,rfl⟩);all_goals (
   generalize bw:(w.setCell ⟨g,1,N⟩ (I U (W:Nat))).drew=w1 at *;have e:=H (EM j {data:=#[37]} cO cO);rw[wj]at e;cases m:([37]:List Nat).isPrefixOf i
   ·have J:=H (I6 m M);rw[show(UInt8.toNat 37)=37 from rfl,m]at e;go_wp2_with fail;apply e.o.m;rintro l t ⟨rfl,d,rfl⟩;go_wp2;simp only[Exit.jump]
    go_end0
    have E:i=D:=by rw[<-HR.o,C.o,J.o]
    refine⟨rfl,?_,n.drewN d⟩;rw[<-E];exact j.drewN d
   ·obtain⟨a,rfl⟩:=I5 m;rw[show(UInt8.toNat 37)=37 from rfl,m]at e;go_wp2_with fail;apply e.o.m;rintro l t ⟨rfl,d,rfl⟩;have c:=H (j.drewN d);have K:=H (n.drewN d);generalize bx:w1.drewN d=t at *;have d0:=c.o.c0;have Q:=c.o.c1;have g1:=c.o.fz 1;have k:=H c.line;have F:gX (37::a)=gX a:=by simp[gX]
    have x:=H ((c.go (q:=gX a) (by rw[<-F];exact Gy _)).drew);have bq:=mZ a;have A:L1 (gB g w (t.setCell ⟨g,1,N⟩ (I U (G f-(gX a).length:Nat))).drew):=(K.setCell _ _).drewN 1;rw[F]at k;have L:L1 (f9 (gX a)=D):=by rw[<-HR.o,C.o,oQ];exact rfl
    have S:=c.o.le;simp only[aj]at S R;have aa:=H (show (G f)-(G f-(gX a).length)<G f-(G f-G r)by omega);generalize gX a=X at *;generalize bs:G f-(37::a).length=p2 at Q k;generalize bt:G f-G X=p3 at k x A;go_wp2_with fail;go_region_with (go_at_call 189;apply k.o.m;rintro l w' ⟨rfl,rfl⟩);all_goals (
     go_wp2
     go_step3
     exact⟨rfl,_,_,_,_,_,_,_,_,_,_,_,_,_,_,_,_,_,_,_,_,_,_,_,_,_,_,_,rfl,x,L,A⟩))
 ·rintro a' w0 ⟨q,y2,y3,y4,y5,y6,y7,y8,y9,ad,al,a0,a1,a2,a3,a4,a5,a6,a7,a8,a9,ba,bb,bc,bd,bf,bi,rfl,p,ac,bm⟩;have c0:=p.o.c0;have P:=p.o.c1;have f1:=p.o.fz 1;have br:=p.o.le;have s:=H p.white;have j:=H ((p.go (cW mf)).drew);have M:L1 (∀b a,q.dropWhile mf=b::a->mf b=P2):=Ch q;have C:=H (nY q);have R:=lx (p:=mf) q;have n:L1 (gB g w (w0.setCell ⟨g,1,N⟩ (I U (G f-(q.dropWhile mf).length:Nat))).drew):=(bm.setCell _ _).drewN 1;generalize q.dropWhile mf=i at *;have bv:G f-G i<=200000:=Y;have HP:=H (show (G f)-G q<=G f-G i by omega);generalize hp:G f-G q=V at P s;generalize T:G f-G i=W at s j n;have bo:=H T;go_wp2_with fail;go_region_with (go_at_call 188;apply s.o.m;rintro l w' ⟨rfl,rfl⟩);all_goals (
   generalize bw:(w0.setCell ⟨g,1,N⟩ (I U (W:Nat))).drew=w1 at *;have e:=H (EM j {data:=#[37]} cO cO);rw[wj]at e;cases m:([37]:List Nat).isPrefixOf i
   ·have J:=H (I6 m M);rw[show(UInt8.toNat 37)=37 from rfl,m]at e;go_wp2_with fail;apply e.o.m;rintro l t ⟨rfl,d,rfl⟩;go_wp2;simp only[Exit.jump]
    go_end0
    have E:i=D:=by rw[<-ac.o,C.o,J.o]
    refine⟨rfl,?_,n.drewN d⟩;rw[<-E];exact j.drewN d
   ·obtain⟨a,rfl⟩:=I5 m;rw[show(UInt8.toNat 37)=37 from rfl,m]at e;go_wp2_with fail;apply e.o.m;rintro l t ⟨rfl,d,rfl⟩;have c:=H (j.drewN d);have K:=H (n.drewN d);generalize bx:w1.drewN d=t at *;have d0:=c.o.c0;have Q:=c.o.c1;have g1:=c.o.fz 1;have k:=H c.line;have F:gX (37::a)=gX a:=by simp[gX]
    have x:=H ((c.go (q:=gX a) (by rw[<-F];exact Gy _)).drew);have bq:=mZ a;have A:L1 (gB g w (t.setCell ⟨g,1,N⟩ (I U (G f-(gX a).length:Nat))).drew):=(K.setCell _ _).drewN 1;rw[F]at k;have L:L1 (f9 (gX a)=D):=by rw[<-ac.o,C.o,oQ];exact rfl
    have S:=c.o.le;simp only[aj]at S R;have aa:=H (show (G f)-(G f-(gX a).length)<G f-(G f-G q)by omega);generalize gX a=X at *;generalize bs:G f-(37::a).length=p2 at Q k;generalize bt:G f-G X=p3 at k x A;go_wp2_with fail;go_region_with (go_at_call 189;apply k.o.m;rintro l w' ⟨rfl,rfl⟩);all_goals (
     go_wp2
     go_step3
     refine⟨rfl,⟨_,_,_,_,_,_,_,_,_,_,_,_,_,_,_,_,_,_,_,_,_,_,_,_,_,_,_,rfl,x,L,A⟩,?_⟩;rw[x.o.posS,p.o.posS];exact aa))
def IB(a:Option L2)(c:Nat)(b:Gr):(convert 23 9 (Z a 0 c)).run Qe b=.ok (MV {data:=#[]}) b:=by
 cases a with
 |none=>rw[fh b 23 9 5 N 0 c bB fE dJ];rfl
 |some a=>exact AC a c [] (λe d=>by cases d)
def qI(w:Gr)(B:Nat)(a:List Nat)(h:GI):Prop:=∃b e c,h=Z (O ⟨b,e,N⟩) (G a) c/\b<B/\G a<=c/\c<=9223372036854775807/\∀d,d<G a->w.cell? ⟨b,e+d,N⟩=O (I .u8 (nth a d:Nat))
def Sc.taken(h:Sc B g ao cap f u y z w r)(b:Nat)(A:b<=G r){c i:Nat}(p:ao=O ⟨c,i,N⟩)(l:c<B)(j:Gr)(o:∀k,k<B->j.heap[k]?=w.heap[k]?):qI j B (r.take b) (Z (if cap=G f-G r then O ⟨c,i,N⟩else O ⟨c,i+(G f-G r),N⟩) b (cap-(G f-G r))):=by
 have e:(r.take b).length=b:=by rw[ay];omega
 have x:=h.le;have v:=h.lc;have s:∀a,a<b->j.cell? ⟨c,i+(G f-G r)+a,N⟩=O (I .u8 (nth (r.take b) a:Nat)):=λa d=>by
  obtain⟨t,C,e1,e2,n⟩:=h.dat (G f-G r+a) Y;rw[p]at e1;cases e1;rw[World.cell?_of_block (w:=w) (o _ e2)];have e4:nth (r.take b) a=nth f (G f-G r+a):=by rw[<-h.nthOf a Y];unfold nth;rw[ax,ax,c_ d]
  rw[e4,dQ];exact n
 by_cases m:cap=G f-G r
 ·rw[ai m];refine⟨c,i,cap-(G f-G r),by rw[e],l,by rw[e];omega,Y,λa d=>?_⟩;rw[e]at d;omega
 ·rw[ah m];refine⟨c,i+(G f-G r),cap-(G f-G r),by rw[e],l,by rw[e];omega,Y,λa d=>?_⟩;rw[e]at d;exact s a d
def AB(h:Sc B g ao cap f u y z w r)(a:Nat)(o:a<=G r):K8 Qe 257 #[M2 (O ⟨g,0,N⟩),I U a] w λb w'=>∃t,b=Ps t/\qI w' B (r.take a) t/\Sc B g ao cap f u y z w' (r.drop a)/\gB g w w':=by
 have e:=H h;obtain⟨m,s,rfl,v⟩:=h.ad;have A:=h.c0;have C:=h.c1;have D:=h.fz 1;have K:=h.hb;have Q:=h.le;have R:=h.len;obtain⟨P,L⟩:=h.lc;have l:=H (λj=>(e.drewN j).set _ a rfl o _ rfl);have i:L1 (∀j,qI ((w.drewN j).setCell ⟨g,1,N⟩ (I U (G f-G r+a:Nat))) B (r.take a) (Z (if cap=G f-G r then O ⟨m,s,N⟩else O ⟨m,s+(G f-G r),N⟩) a (cap-(G f-G r)))):=λj=>e.taken a o rfl v _ (λk M=>kW _ Y);have p:(a:Int)<=(G r:Int):=Y;have S:G f-G r+a<=G f:=Y;generalize (G f)-G r=c at *;have T:IntKind.i64.wrap ((c:Int)+(a:Int))=((c+a:Nat):Int):=by rw[aU];omega
 have E:(0:Int)<=(c:Int)+(a:Int):=Y;have F:(c:Int)+(a:Int)<=(cap:Int):=Y;have J:((c:Int)+(a:Int)).toNat=c+a:=Y;by_cases n:cap=c
 ·subst n;simp only[if_true,dN]at i
  go_in
  go_wp2_with fail;apply(xz e).m;rintro b d ⟨rfl,x,rfl⟩;go_wp2_with fail;apply(ou _ _ _ _ Y p).m;rintro b d ⟨rfl,rfl⟩;go_wp2_with fail;apply(oe _).m;rintro b d ⟨rfl,rfl⟩;go_wp2_with fail;go_quiet (fail);go_wp2;go_ret;exact⟨_,rfl,i _,l _,((gB.refl _ _).drewN _).setCell _ _⟩
 ·simp only[ah n]at i
  go_in
  go_wp2_with fail;apply(xz e).m;rintro b d ⟨rfl,x,rfl⟩;go_wp2_with fail;apply(ou _ _ _ _ Y p).m;rintro b d ⟨rfl,rfl⟩;go_wp2_with fail;apply(oe _).m;rintro b d ⟨rfl,rfl⟩;go_wp2_with fail;go_quiet (fail);go_wp2;go_ret;exact⟨_,rfl,i _,l _,((gB.refl _ _).drewN _).setCell _ _⟩
def GZ(h:Sc B g ao cap f u y z w r)(b:Int)(e:b<0\/(G r:Int)<b):K8 Qe 257 #[M2 (O ⟨g,0,N⟩),I U b] w λa w'=>a=gU 4/\∃i,w'=w.drewN i:=by
 have d:=H (xz h)
 go_in
 go_wp2_with fail;apply d.o.m;rintro a c ⟨rfl,j,rfl⟩;go_wp2_with fail;apply(qP _ _ _ _ e).m;rintro a c ⟨rfl,rfl⟩;go_wp2_with fail;apply(nZ _).m;rintro a c ⟨rfl,rfl⟩;exact⟨rfl,rfl,j,rfl⟩
def AA{b:Nat}{e:List Nat}(h:Sc B g ao cap f u y z w (b::e)):K8 Qe 304 #[M2 (O ⟨g,0,N⟩)] w λa w'=>a=Ps (I .u8 (b:Nat))/\Sc B g ao cap f u y z w' e/\gB g w w':=by
 have j:=H (AB h 1 eA)
 go_in
 go_wp2_with fail;apply j.o.m;rintro a s ⟨p,rfl,⟨n,o,c,rfl,_,_,_,l⟩,h1,m⟩;have d:=l 0 eA;simp only[List.take_succ_cons,List.take_zero,aj,aI]at d ⊢;rw[show nth [b] 0=b from rfl,dZ]at d;have i:=H h1;have k:=H m;go_wp2;go_ret;exact⟨rfl,i,k⟩
def Dy(h:Sc B g ao cap f u y z w []):K8 Qe 304 #[M2 (O ⟨g,0,N⟩)] w λb w'=>b=gU 4/\∃a,w'=w.drewN a:=by
 have c:=H (GZ h 1 (P4 eA))
 go_in
 go_wp2_with fail;apply c.o.m;rintro b d ⟨rfl,a,rfl⟩;exact⟨rfl,rfl,a,rfl⟩
def im(c:Int)(w:Gr):K8 Qe 319 #[I .u8 c] w λa w'=>a=Ps (OV (c==40||c==41||c==60||c==62||c==91||c==93||c==123||c==125||c==47||c==37))/\w'=w:=by
 go_in
 go_wp2;all_goals (go_ret;exact⟨by simp[*],rfl⟩)
def Mv(c:Nat)(w:Gr):K8 Qe 319 #[I .u8 c] w λa w'=>a=Ps (OV (n9 c))/\w'=w:=by
 have a:((c:Int)==40||(c:Int)==41||(c:Int)==60||(c:Int)==62||(c:Int)==91||(c:Int)==93||(c:Int)==123||(c:Int)==125||(c:Int)==47||(c:Int)==37)=n9 c:=by rw[bC];simp[n9];omega
 have:=im c w;rw[a]at this;exact this
def JA(c:Nat)(w:Gr):K8 Qe 291 #[I .u8 c] w λa w'=>a=Ps (OV (pB c))/\w'=w:=by
 have d:=H (yh c);have b:=H (Mv c);unfold pB;cases h:mf c<;>cases e:n9 c<;>rw[h]at d<;>rw[e]at b;all_goals (
  go_in
  go_wp2_with (first|(go_at_call 250;apply(d _).m;rintro a w' ⟨rfl,rfl⟩)|(go_at_call 319;apply(b _).m;rintro a w' ⟨rfl,rfl⟩));go_ret;exact⟨rfl,rfl⟩)
def pH:List Nat->Bool
 | []=>P2
 |b::_=>pB b
def J6(h:Sc B g ao cap f u y z w r):K8 Qe 306 #[M2 (O ⟨g,0,N⟩)] w λc w'=>c=Ps (OV (pH r))/\∃d,w'=w.drewN d:=by
 have a:=H h;cases r with
 |nil=>
  go_in
  go_wp2_with fail;go_quiet ((go_at_call 190;exact eT (xz (a.drewN _))));go_wp2;go_ret;exact⟨rfl,nq,rfl⟩
 |cons b i=>
  obtain⟨p,_,m,j,t,rfl,n,o⟩:=h.cons;have k:=h.c0;have l:=h.c1;generalize (G f)-(b::i).length=e at *;have s:(e:Int)<(G f:Int):=Y
  go_in
  go_wp2_with fail;go_quiet (first|(go_at_call 190;exact eT (xz (a.drewN _)))|(go_at_call 291;exact bj (JA b _)));go_wp2;go_ret;exact⟨rfl,nq,rfl⟩
structure nh(r:List Nat)(k:Nat)(q:List Nat):Prop where
 dr:r.drop k=q
 le:k<=G r
 tw:r.takeWhile pB=r.take k++q.takeWhile pB
 dw:r.dropWhile pB=q.dropWhile pB
def nh.start(r:List Nat):nh r 0 r:=⟨rfl,aH _,rfl,rfl⟩
def nh.on{k b:Nat}{a:List Nat}(h:nh r k (b::a))(c:pB b=PV):nh r (k+1) a:=by
 obtain⟨h1,h2,h3,d⟩:=h;have e:(r.drop k).length=G a+1:=by rw[h1];rfl
 rw[au]at e;refine⟨by rw[<-di,h1];rfl,Y,?_,by rw[d,bP,c];rfl⟩;rw[h3,cL,c];simp only[if_true];rw[du,show r[k]?=O b by rw[<-List.head?_drop,h1];rfl];simp
def nh.stop{k:Nat}(h:nh r k q)(c:pH q=P2):r.takeWhile pB=r.take k/\r.dropWhile pB=q:=by
 obtain⟨h1,h2,h3,a⟩:=h;cases q with
 |nil=>rw[h3,a];simp
 |cons b e=>have d:pB b=P2:=c;rw[h3,a,cL,bP,d];simp
def rX.str{a e p n:Nat}(h:rX w B (O ⟨a,e,N⟩) f)(c:Nat)(m:p+n<=G f)(d:Nat):(convert 23 9 (Z (O ⟨a,e+p,N⟩) n c)).run Qe (w.drewN d)=.ok (MV (ge ((f.drop p).take n))) (w.drewN d):=by
 have j:((f.drop p).take n).length=n:=by rw[ay,au];omega
 have:=AC (w:=w.drewN d) ⟨a,e+p,N⟩ c ((f.drop p).take n) (λb i=>by
  rw[j]at i;obtain⟨l,o,e1,e2,k⟩:=h (p+b) Y;cases e1;have e4:nth ((f.drop p).take n) b=nth f (p+b):=by unfold nth;rw[ax,ax,c_ i,dz]
  rw[e4,ap,dQ];exact k)
 rw[j]at this;exact this
def GY(h:Sc B g ao cap f u y z w r):K8 Qe 258 #[M2 (O ⟨g,0,N⟩)] w λj w'=>j=Ps (MV (ge (r.takeWhile pB)))/\Sc B g ao cap f u y z w' (r.dropWhile pB)/\gB g w w':=by
 have x:=H h;have s:=h.c1;have a6:=h.le;obtain⟨a5,a4⟩:=h.lc;obtain⟨V,al,rfl,a2⟩:=h.ad;obtain⟨a,L⟩:∃a,G f-G r=a:=⟨_,rfl⟩;rw[L]at s;have o:=H L
 go_in
 go_wp2;go_loopw [8] (λ_ wr=>∃(k:Nat) (q:List Nat),L1 (nh r k q)/\Sc B g (O ⟨V,al,N⟩) cap f u y z wr q/\L1 (gB g w wr)) (λ_ wr=>G f-posS g wr)
 case atStart=>exact⟨0,r,nh.start r,x,gB.refl _ _⟩
 case round=>
  obtain⟨k,q,p,W,m⟩:=hrel;have c:=H W;have X:G q=G r-k/\k<=G r:=⟨by rw[<-p.o.dr,au],p.le⟩;have R:=H c.posS;have K:G f-G q=a+k:=by have:=o.o;omega
  have e:=H (J6 c);have c0:=c.o.c0;have s:=c.o.c1;have f1:=c.o.fz 1;rw[K]at s;cases l:pH q
  ·rw[l]at e;have aa:=p.o.stop l;have i:=H aa;have P:=H c.dat;have M:a+k<=G f:=by have:=o.o;omega
   have ac:f.drop a=r:=by rw[<-o.o];exact x.suf
   rcases eg k with D|D
   ·subst D;have a3:=IB;rw[dZ]at s;by_cases F:cap=a
    ·subst F;go_wp2_with fail;apply e.o.m;rintro j v ⟨rfl,d,rfl⟩;go_wp2_with fail;go_quiet (fail);go_wp2;go_ret;exact⟨by rw[i.o.1];rfl,by rw[i.o.2];exact(c.drewN _).drewN _,(m.drewN _).drewN _⟩
    ·go_wp2_with fail;apply e.o.m;rintro j v ⟨rfl,d,rfl⟩;go_wp2_with fail;go_quiet (fail);go_wp2;go_ret;exact⟨by rw[i.o.1];rfl,by rw[i.o.2];exact(c.drewN _).drewN _,(m.drewN _).drewN _⟩
   ·have F:¬cap=a:=Y;have hA:(0:Int)<=(a:Int)+(k:Int):=Y;have a0:(a:Int)+(k:Int)<=(cap:Int):=Y;have a1:((a:Int)+(k:Int)).toNat=a+k:=Y;have J:=λd=>P.str (p:=a) (n:=k) (cap-a) M d;rw[ac]at J;obtain⟨C,E⟩:∃C,ge (r.take k)=C:=⟨_,rfl⟩;rw[E]at J;have S:=H E;go_wp2_with fail;apply e.o.m;rintro j v ⟨rfl,d,rfl⟩;go_wp2_with fail;go_quiet (fail);go_wp2;go_ret;exact⟨by rw[i.o.1,S.o];rfl,by rw[i.o.2];exact(c.drewN _).drewN _,(m.drewN _).drewN _⟩
  ·rw[l]at e;cases q with
   |nil=>cases l
   |cons b t=>
    have T:=H (p.o.on l);have A:=H (λd=>(c.drewN d).set t 1 rfl eA _ (by rw[K]));have Q:L1 (G f-(G f-G t)<G f-(G f-(b::t).length)):=by have:=c.o.le;unfold Hid;simp only[aj]at this ⊢;omega
    have M:a+k<G f:=by have:=o.o;simp only[aj]at X;omega
    go_wp2_with fail;apply e.o.m;rintro j v ⟨rfl,d,rfl⟩;go_wp2;go_roundw
    case rel=>exact⟨k+1,t,T,A d,(m.drewN d).setCell _ _⟩
    case measure=>have e1:=(A d).posS;rw[R.o];exact eh (Nat.le_of_eq (by rw[<-e1];rfl)) Q
def Km(h:Sc B g ao cap f u y z w r):K8 Qe 251 #[M2 (O ⟨g,0,N⟩)] w λa w'=>a=Ps (MV (ge (gn r)))/\Sc B g ao cap f u y z w' (gm r)/\gB g w w':=by
 have c:=H (EN h)
 go_in
 go_wp2_with fail;apply c.o.m;rintro a j ⟨rfl,h1,e⟩;have b:=H (GY h1);have d:=H e;go_wp2_with fail;apply b.o.m;rintro a k ⟨rfl,h2,i⟩;go_wp2;go_ret;exact⟨rfl,h2,d.t i⟩
def yd(h:Sc B g ao cap f u y z w r)(a:ByteArray)(i:0<a.size)(j:a.size<=1000000):K8 Qe 196 #[M2 (O ⟨g,0,N⟩),MV a] w (BV B g ao cap f u y z w (f9 r) (f_ (bl a) (f9 r))):=by
 have c:=H (EN h)
 go_in
 go_wp2_with fail;apply c.o.m;rintro e m ⟨rfl,h1,k⟩;have b:=H (vt h1 a i j);have d:=H k;go_wp2_with fail;apply b.o.m;rintro e n ⟨rfl,h2,l⟩;go_wp2;go_ret;exact⟨rfl,h2,d.t l⟩
def Gz{c:List Nat}(d:∀e∈c,e<256)(a:ByteArray):decide (ge c=a)=decide (c=bl a):=by
 rw[cJ];constructor
 ·intro b;exact Bx d (xH a) (b.t (uN a).s)
 ·intro b;rw[b,uN]
def xk:∀(b:Bool) (r:List Nat),je b r <:+ r
 |b,[]=>by cases b<;>exact eH _
 |false,a::r=>by
  simp only[je];split;·exact(xk P2 r).t (eV a r)
  ·split;·exact(xk PV r).t (eV a r)
   ·exact eH _
 |true,a::r=>by
  simp only[je];split;·exact(xk P2 r).t (eV a r)
  ·exact(xk PV r).t (eV a r)
def GP(r:List Nat):f9 r <:+ r:=xk P2 r
def Ks(r:List Nat):gm r <:+ r:=(cW pB).t (GP r)
def Hc{r:List Nat}{a:Nat}(h:a∈gn r):a∈r:=by unfold gn at h;exact(GP r).subset ((dG pB).subset h)
def xy(h:Sc B g ao cap f u y z w r)(a:ByteArray):K8 Qe 191 #[M2 (O ⟨g,0,N⟩),MV a] w (BV B g ao cap f u y z w r (gg (bl a) r)):=by
 have s:=h.c1;have j:=H (Km h);have e:=H (Gz (λD A=>h.bytes D (Hc A)) a);have J:=h.le;have x:=H h.suf;have k:G f-G r<=G f:=Y;unfold gg;by_cases b:gn r=bl a
 ·have v:(((ge (gn r)).toList==a.toList))=PV:=by rw[ng,e.o,bT];exact b
  rw[ai b];generalize ge (gn r)=p at *;generalize (G f)-G r=c at *
  go_in
  go_wp2_with fail;apply j.o.m;rintro t C ⟨rfl,h1,d⟩;go_wp2;go_ret;exact⟨rfl,h1,d⟩
 ·have v:(((ge (gn r)).toList==a.toList))=P2:=by rw[ng,e.o,bk];exact b
  rw[ah b];generalize ge (gn r)=p at *;obtain⟨c,l⟩:∃c,G f-G r=c:=⟨_,rfl⟩;rw[l]at s k;have i:=H l
  go_in
  go_wp2_with fail;apply j.o.m;rintro t C ⟨rfl,h1,d⟩;have F:=h1.fz 1;have E:=h1.c1;have m:=H h1;have n:=H d;go_wp2;go_ret;refine⟨rfl,?_,n.setCell _ _⟩;have:=m.o.at_ c k;rw[<-i.o,x.o,i.o]at this;exact this
def EI(h:Sc B g ao cap f u y z w r):K8 Qe 199 #[M2 (O ⟨g,0,N⟩)] w (BV B g ao cap f u y z w r (gJ r)):=by
 have b:=H (vt h {data:=#[13,10]} cO cO);rw[show bl {data:=#[13,10]}=[13,10]from rfl]at b;cases e1:f_ [13,10] r with
 |some q=>
  rw[e1]at b
  go_in
  go_wp2_with fail;apply b.o.m;rintro d p ⟨rfl,h1,e⟩;go_wp2;go_ret;have a:gJ r=O q:=by unfold gJ;rw[e1];rfl
  exact⟨by rw[a];rfl,by rw[a];exact h1,e⟩
 |none=>
  rw[e1]at b
  go_in
  go_wp2_with fail;apply b.o.m;rintro d p ⟨rfl,h1,e⟩;have c:=H (vt (show Sc B g ao cap f u y z p r from h1) {data:=#[10]} cO cO);rw[wj,show(UInt8.toNat 10)=10 from rfl]at c;have k:=H e;clear h1 e b;cases e2:f_ [10] r with
  |some q=>
   rw[e2]at c;go_wp2_with fail;apply c.o.m;rintro d s ⟨rfl,h2,i⟩;go_wp2;go_ret;have a:gJ r=O q:=by unfold gJ;rw[e1,e2];rfl
   exact⟨by rw[a];rfl,by rw[a];exact h2,k.t i⟩
  |none=>
   rw[e2]at c;go_wp2_with fail;apply c.o.m;rintro d s ⟨rfl,h2,i⟩;have j:=H (vt (show Sc B g ao cap f u y z s r from h2) {data:=#[13]} cO cO);rw[wj,show(UInt8.toNat 13)=13 from rfl]at j;have t:=H (k.t i);clear h2 i c k;have a:gJ r=f_ [13] r:=by unfold gJ;rw[e1,e2];rfl
   rw[<-a]at j;generalize gJ r=v at *;clear e1 e2 a;go_wp2_with fail;apply j.o.m;rintro d x ⟨rfl,h3,n⟩;have l:=H h3;have m:=H (t.t n);clear h3 n;cases v with
   |some q=>go_wp2;go_ret;exact⟨rfl,l,m⟩
   |none=>go_wp2;go_ret;exact⟨rfl,l,m⟩
end
section
def gK:Nat->Nat->List Nat->Option (List Nat×List Nat)
 |0,_,[]=>O ([],[])
 |_+1,_,[]=>N
 |0,_,b::r=>if pB b=P2 then O ([],b::r)else if b<33\/126<b then N else if b=35 then gK 1 0 r else(gK 0 0 r).map λd=>(b::d.1,d.2)
 |1,_,b::r=>match gI b with
  |none=>N
  |some a=>gK 2 a r
 |_+2,a,b::r=>match gI b with
  |none=>N
  |some c=>if 16*a+c=0 then N else(gK 0 0 r).map λd=>((16*a+c)::d.1,d.2)
def j7(r:List Nat):Option (List Nat×List Nat):=gK 0 0 r
variable{B bs i:Nat}{ao:Option L2}{f:List Nat}{p s A:GI}{w w':Gr}{r q:List Nat}
def kB(B bs:Nat)(ao:Option L2)(i:Nat)(f:List Nat)(p s A:GI){b:Type}(e:Gr->b->GI->Prop)(d:Option (b×List Nat))(w:Gr)(a:MB)(w':Gr):Prop:=
 match d with
 |some (c,q)=>∃v,a=Ps v/\e w' c v/\Sc B bs ao i f p s A w' q/\gB bs w w'
 |none=>a=gU 4/\gB bs w w'
def pZ(_:Gr)(a:List Nat)(b:GI):Prop:=b=MV (ge a)
structure Bu(C:Gr)(B bs:Nat)(ao:Option L2)(i:Nat)(f:List Nat)(p s A:GI)(w:Gr)(q:List Nat)(D:GI)(d:List Nat):Prop where
 sc:Sc B bs ao i f p s A w q
 own:w.ownsRow C.heap.size 5 1 D (G d) (d.map λx:Nat=>I .u8 (x:Int))
 only:gB bs C w
 lt:bs<C.heap.size
 few:G d+G q<=200000
variable{C:Gr}{D:GI}{d:List Nat}
def uf{b l m e a:Nat}{n:GI}{o:List GI}(h:w.ownsRow a e m n l o)(k:gB b w w')(v:b<a):w'.ownsRow a e m n l o:=by
 obtain⟨h1,h2⟩:=h;refine⟨h1,?_⟩;rcases h2 with h2|⟨g,c,t,e1,e2,j,u⟩;·exact P3 h2
 ·exact P4 ⟨g,c,t,e1,e2,by rw[k.block g (ae j) Y];exact j,u⟩
def Bu.start(h:Sc B bs ao i f p s A w r):Bu w B bs ao i f p s A w r (Z N 0 0) []:=
 ⟨h,aX _ _ _ _,gB.refl _ _,h.lt,by have:=h.le;have:=h.len;simp only[aI];omega⟩
def Bu.step(h:Bu C B bs ao i f p s A w q D d){q':List Nat}(a:Sc B bs ao i f p s A w' q')(k:gB bs w w')(b:G q'<=G q):Bu C B bs ao i f p s A w' q' D d:=
 ⟨a,uf h.own k h.lt,h.only.t k,h.lt,by have:=h.few;omega⟩
def Bu.drewN(h:Bu C B bs ao i f p s A w q D d)(n:Nat):Bu C B bs ao i f p s A (w.drewN n) q D d:=h.step (h.sc.drewN n) ((gB.refl _ _).drewN n) (ag _)
def Bu.alloc(h:Bu C B bs ao i f p s A w q D d)(a:Obj):Bu C B bs ao i f p s A (w.alloc a) q D d:=
 h.step (h.sc.other ((aq _ _).alloc (ag _) a)) (.of_below ((aq _ _).alloc (ag _) a)) (ag _)
def Bu.sz(h:Bu C B bs ao i f p s A w q D d):C.heap.size<=w.heap.size:=h.only.size
def Bu.app(h:Bu C B bs ao i f p s A w q D d){j:GI}{xs:List Nat}{g:Nat}(m:g=G d+G xs)(n:w'.ownsRow C.heap.size 5 1 j g ((d.map λe:Nat=>I .u8 (e:Int))++(xs.map λe:Nat=>I .u8 (e:Int))))(a:w.grownBy w' D.ownBlock)
  (t:G d+G xs+G q<=200000):Bu C B bs ao i f p s A w' q j (d++xs):=by
 subst m;have c:=λk b=>a.block k (by have:=h.sz;omega) (CU h.own b);have o:=h.sc.hb;have u:=h.lt;refine⟨⟨h.sc.hb,by rw[c _ h.lt];exact h.sc.blk,h.sc.dat.other (λk b=>c k Y),h.sc.byt,h.sc.len,h.sc.lc,h.sc.le,h.sc.suf,h.sc.ad⟩,?_,?_,h.lt,by rw[ak];omega⟩;·rw[ak,bK];exact n
 ·exact⟨a.os.t h.only.os,a.tape.t h.only.tape,a.output.t h.only.output,aA h.sz a.size,λk b l=>(c k b).t (h.only.block k b l)⟩
def Bu.one_news(c:Nat)(e:Gr):∀b g,([c].map λh:Nat=>I .u8 (h:Int))[b]?=O g->(e.alloc (Pp #[I .u8 (c:Nat)] 5)).cell? ((⟨e.heap.size,0,N⟩:L2).add b)=O g:=by
 intro b g a;rw[pR];match b,a with
 |0,a=>exact(iI (bn e _)).t a
 |b+1,a=>simp at a
def GH(c b:Nat)(w:Gr)(h:gI c=O b):K8 Qe 303 #[I .u8 c] w λa w'=>a=Ps (I .u8 b)/\w'=w:=by
 have e:=H h
 go_in
 go_wp2_with (first|(go_at_call 275;apply(Ct _ _ _ e).m;rintro a w' ⟨rfl,rfl⟩)|(go_at_call 99;apply(oe _).m;rintro a w' ⟨rfl,rfl⟩));go_ret;exact⟨rfl,rfl⟩
def GG(c:Nat)(w:Gr)(h:gI c=N):K8 Qe 303 #[I .u8 c] w λa w'=>a=gU 4/\w'=w:=by
 have b:=H h
 go_in
 go_wp2_with fail;apply(I1 _ _ b).m;rintro a w' ⟨e,rfl,rfl⟩;go_wp2_with fail;apply(nZ _).m;rintro a w' ⟨rfl,rfl⟩;exact⟨rfl,rfl,rfl⟩
def iN(c:Nat):Bool:=pB c&&(decide (33<=c)&&decide (c<=126))
def Ft(c:Nat)(w:Gr):K8 Qe 239 #[I .u8 c] w λb w'=>b=Ps (OV (iN c))/\w'=w:=by
 have a:=H (JA c);have e:=H (yT (c:Int) 33 126);have e1:(decide ((33:Int)<=(c:Int))&&decide ((c:Int)<=126))=(decide (33<=c)&&decide (c<=126)):=by rw[bC];simp;omega
 rw[e1]at e;unfold iN;cases g:pB c
 ·rw[g]at a
  go_in
  go_wp2_with (go_at_call 291;apply(a _).m;rintro b w' ⟨rfl,rfl⟩);go_ret;exact⟨rfl,rfl⟩
 ·rw[g]at a;generalize (decide (33<=c)&&decide (c<=126))=h at *
  go_in
  go_wp2_with (first|(go_at_call 291;apply(a _).m;rintro b w' ⟨rfl,rfl⟩)|(go_at_call 216;apply(e _).m;rintro b w' ⟨rfl,rfl⟩));go_ret;exact⟨eA,rfl⟩
def nameS_end{q:List Nat}(h:pH q=P2):gK 0 0 q=O ([],q):=by
 cases q with
 |nil=>rfl
 |cons b c=>have a:pB b=P2:=h;simp[gK,a]
def nameS_bad{b:Nat}{e:List Nat}(a:pB b=PV)(h:iN b=P2):gK 0 0 (b::e)=N:=by
 have c:b<33\/126<b:=by unfold iN at h;rw[a]at h;simp at h;omega
 simp[gK,a,c]
def nameS_on{b:Nat}{a:List Nat}(h:iN b=PV)(e:b≠35):gK 0 0 (b::a)=(gK 0 0 a).map λc=>(b::c.1,c.2):=by unfold iN at h;simp at h;have g:¬(b<33\/126<b):=Y;simp[gK,h.1,g,e]
def nameS_hash(a:List Nat):gK 0 0 (35::a)=gK 1 0 a:=by simp[gK,show pB 35=PV from rfl]
def jr(d:List Nat)(b:Option (List Nat×List Nat)):Option (List Nat×List Nat):=b.map λa=>(d++a.1,a.2)
def vQ(d:List Nat)(c:Nat)(a:Option (List Nat×List Nat)):jr d (a.map λb=>(c::b.1,b.2))=jr (d++[c]) a:=by
 cases a with
 |none=>rfl
 |some b=>simp[jr]
def kB.none_{α:Type}{b:Gr->α->GI->Prop}{a:Option (α×List Nat)}{w w':Gr}(h:a=N)(k:gB bs w w'):kB B bs ao i f p s A b a w (gU 4) w':=by subst h;exact⟨rfl,k⟩
def kB.some_{b:Type}{e:Gr->b->GI->Prop}{c:Option (b×List Nat)}{w w':Gr}{a:b}{q:List Nat}{v:GI}(h:c=O (a,q))(j:e w' a v)(g:Sc B bs ao i f p s A w' q)(k:gB bs w w'):kB B bs ao i f p s A e c w (Ps v) w':=by subst h;exact⟨v,rfl,j,g,k⟩
def DB(h:Sc B bs ao i f p s A w r):K8 Qe 255 #[M2 (O ⟨bs,0,N⟩)] w (kB B bs ao i f p s A pZ (j7 r) w):=by
 obtain⟨i0,hi,a1,a2,a3⟩:=bu infoByte;have a4:=H (Bu.start h);obtain⟨a,hR⟩:∃a,j7 r=a:=⟨_,rfl⟩;rw[hR];have x:L1 (jr [] (gK 0 0 r)=a):=by unfold Hid;rw[<-hR];unfold j7 jr;cases gK 0 0 r<;>simp
 go_in
 go_wp2;go_loopw [3] (λD wr=>∃(q d:List Nat),L1 (Bu w B bs ao i f p s A wr q D d)/\L1 (jr d (gK 0 0 q)=a)) (λ_ wr=>G f-posS bs wr)
 case atStart=>exact⟨r,[],a4,x⟩
 case round=>
  obtain⟨q,d,j,x⟩:=hrel;have Q:=H (J6 j.sc);have ac:=H j.sc.posS;cases K:pH q
  ·rw[K]at Q;have a8:=λn=>yP (j.drewN n).own;have g:L1 (a=O (d,q)):=by unfold Hid;have:=x.o;rw[nameS_end K]at this;rw[<-this];simp[jr]
   obtain⟨ad,hS⟩:∃ad,ge d=ad:=⟨_,rfl⟩;rw[hS]at a8;have HS:=H hS;go_wp2_with fail;apply Q.o.m;rintro e w1 ⟨rfl,n,rfl⟩;go_wp2;go_ret;exact kB.some_ g (by rw[pZ,HS.o];rfl) (j.drewN n).sc (j.drewN n).only
  ·rw[K]at Q;cases q with
   |nil=>cases K
   |cons b t=>
    have bi:=j.o.sc.bytes b eA;have HN:=H (λn=>AA (j.drewN n).sc);have HI:=H (Ft b);go_wp2_with fail;apply Q.o.m;rintro e w1 ⟨rfl,n,rfl⟩;go_wp2_with fail;apply(HN n).m;rintro e w2 ⟨rfl,h2,k2⟩;have u:=H ((j.drewN n).step h2 k2 eA);go_wp2_with fail;apply(HI _).m;rintro e w' ⟨rfl,rfl⟩;cases a0:iN b
    ·have g:L1 (a=N):=by unfold Hid;rw[<-x.o,nameS_bad K a0];rfl
     go_wp2_with fail;apply(nZ _).m;rintro e w' ⟨rfl,rfl⟩;exact⟨rfl,kB.none_ g u.o.only⟩
    ·go_wp2_with fail;apply(oe _).m;rintro e w' ⟨rfl,rfl⟩;by_cases al:b=35
     ·subst al;have J:L1 (jr d (gK 1 0 t)=a):=by unfold Hid;rw[<-x.o,nameS_hash]
      cases t with
      |nil=>
       have g:L1 (a=N):=by unfold Hid;rw[<-J.o];rfl
       go_wp2_with fail;apply(Dy u.sc).m;rintro e w3 ⟨rfl,m3,rfl⟩;exact⟨rfl,kB.none_ g (u.o.only.drewN m3)⟩
      |cons k t=>
       go_wp2_with fail;apply(AA u.sc).m;rintro e w3 ⟨rfl,h3,k3⟩;have E:=H (u.step h3 k3 eA);cases M:gI k with
       |none=>
        have g:L1 (a=N):=by unfold Hid;rw[<-J.o];simp[gK,M,jr]
        have v:=H (GG k w3 M);go_wp2_with fail;apply v.o.m;rintro e w' ⟨rfl,rfl⟩;exact⟨rfl,kB.none_ g E.o.only⟩
       |some m=>
        have S:L1 (jr d (gK 2 m t)=a):=by unfold Hid;rw[<-J.o];simp[gK,M]
        have v:=H (GH k m w3 M);have a6:=vH M;go_wp2_with fail;apply v.o.m;rintro e w' ⟨rfl,rfl⟩;cases t with
        |nil=>
         have g:L1 (a=N):=by unfold Hid;rw[<-S.o];rfl
         go_wp2_with fail;apply(Dy E.sc).m;rintro e w4 ⟨rfl,m4,rfl⟩;exact⟨rfl,kB.none_ g (E.o.only.drewN m4)⟩
        |cons y t=>
         go_wp2_with fail;apply(AA E.sc).m;rintro e w4 ⟨rfl,h4,k4⟩;have F:=H (E.step h4 k4 eA);cases P:gI y with
         |none=>
          have g:L1 (a=N):=by unfold Hid;rw[<-S.o];simp[gK,P,jr]
          have v:=H (GG y w4 P);go_wp2_with fail;apply v.o.m;rintro e w' ⟨rfl,rfl⟩;exact⟨rfl,kB.none_ g F.o.only⟩
         |some c=>
          have v:=H (GH y c w4 P);have a7:=vH P;have T:L1 (jr d (if 16*m+c=0 then N else(gK 0 0 t).map λk=>((16*m+c)::k.1,k.2))=a):=by unfold Hid;rw[<-S.o];simp[gK,P]
          go_wp2_with fail;apply v.o.m;rintro e w' ⟨rfl,rfl⟩;have a9:bits BinOp.or IntKind.u8 ((m:Int)*16) (c:Int)=((16*m+c:Nat):Int):=by have:=u8_or_nat (m*16) c Y Y;rw[tu m c a6 a7]at this;simp only[fj,Int.natCast_add]at this ⊢;rw[show((16:Nat):Int)=16 from rfl]at this ⊢;rw[this];omega
          obtain⟨l,bc⟩:∃l,16*m+c=l:=⟨_,rfl⟩;rw[bc]at T a9;by_cases X:l=0
          ·have g:L1 (a=N):=by unfold Hid;rw[<-T.o,ai X];rfl
           have bb:((l:Int) != 0)=P2:=by rw[X];rfl
           go_wp2_with fail;apply(nZ _).m;rintro e w' ⟨rfl,rfl⟩;exact⟨rfl,kB.none_ g F.o.only⟩
          ·have a5:L1 (jr (d++[l]) (gK 0 0 t)=a):=by unfold Hid;rw[<-T.o,ah X,vQ]
           have bb:((l:Int) != 0)=PV:=eB;go_wp2_with fail;apply(oe _).m;rintro e w' ⟨rfl,rfl⟩;have V:=j.o.few;have ba:=F.o.sz;go_wp2_with (at_builtin;refine a_ _ rfl (.tmp 25) (.tmp 27) 23 rfl w.heap.size 5 i0 (I .u8 0) 1 1 bB hi a1 a2 a3 rfl cO u3 (G d) _ rfl (F.alloc _).own ⟨w'.heap.size,0,N⟩ 1 1 ([l].map λk:Nat=>I .u8 (k:Int)) rfl rfl (Bu.one_news (l) w') ?hone ?h63 ?hby ?hbs ?_)
           case hone=>intro bd L;simp at L;subst L;rfl
           case h63=>unfold maxLen;omega
           case hby=>omega
           case hbs=>simp;omega
           intro v6 w6 aa W _;have z:=H ((F.alloc _).app (xs:=[l]) eA aa W (by simp only[aj,aI]at V ⊢;omega));have R:=H z.sc.posS;go_wp2;go_roundw
           case rel=>exact⟨_,d++[l],z,a5⟩
           case measure=>rw[ac.o,R.o];have:=j.o.sc.le;simp only[aj]at this ⊢;omega
     ·have bf:((b:Int)==35)=P2:=eB;have J:L1 (jr (d++[b]) (gK 0 0 t)=a):=by unfold Hid;rw[<-x.o,nameS_on a0 al,vQ]
      have V:=j.o.few;have ba:=u.o.sz;go_wp2_with (at_builtin;refine a_ _ rfl (.tmp 25) (.tmp 27) 23 rfl w.heap.size 5 i0 (I .u8 0) 1 1 bB hi a1 a2 a3 rfl cO u3 (G d) _ rfl (u.alloc _).own ⟨w'.heap.size,0,N⟩ 1 1 ([b].map λk:Nat=>I .u8 (k:Int)) rfl rfl (Bu.one_news b w') ?hone ?h63 ?hby ?hbs ?_)
      case hone=>intro bd L;simp at L;subst L;rfl
      case h63=>unfold maxLen;omega
      case hby=>omega
      case hbs=>simp;omega
      intro v6 w6 aa W _;have z:=H ((u.alloc _).app (xs:=[b]) eA aa W (by simp only[aj,aI]at V ⊢;omega));have R:=H z.sc.posS;go_wp2;go_roundw
      case rel=>exact⟨_,d++[b],z,J⟩
      case measure=>rw[ac.o,R.o];have:=j.o.sc.le;simp only[aj]at this ⊢;omega
end
section
structure gk(α:Type) where
 kind:Nat
 n:Int
 places:Nat
 text:List Nat
 items:List α
 keys:List (List Nat)
 filters:List Nat
def VT:Nat->Type
 |0=>Empty
 |k+1=>gk (VT k)
def jj(e:Type)(a:Nat)(b:Int)(c:Nat)(d:List Nat):gk e:=⟨a,b,c,d,[],[],[]⟩
def nV{α:Type}(V:gk α)(b c a:GI):GI:=N1 #[I U (V.kind:Int),I U V.n,I U (V.places:Int),MV (ge V.text),b,c,a]
def cellsOf(a:GI):List GI:=a.cells.toList
def jz(P:Nat->Prop)(w:Gr)(b:TypeId)(d:Nat)(a:GI)(c:Nat)(e:List GI):Prop:=w.ownsRow 0 b d a c e/\∀g,a.ownBlock=O g->P g/\g<w.heap.size
def gF(P:Nat->Prop):(k:Nat)->Gr->GI->VT k->Prop
 |0,_,_,_=>False
 |k+1,w,v,V=>∃(c d b:GI) (a:List GI),v=nV (show gk (VT k)from V) c d b/\G a=(show gk (VT k)from V).items.length /\
   jz P w 67 7 c (G a) (a.flatMap cellsOf)/\(∀(i:Nat) (e:GI) (y:VT k),a[i]?=O e->(show gk (VT k)from V).items[i]?=O y->gF P k w e y) /\
   jz P w 9 1 d (show gk (VT k)from V).keys.length ((show gk (VT k)from V).keys.map λs=>MV (ge s)) /\
   jz P w 3 1 b (show gk (VT k)from V).filters.length ((show gk (VT k)from V).filters.map λf:Nat=>I U f)
variable{P Q:Nat->Prop}{w w':Gr}
def zP{w:Gr}{b a d f e:Nat}{g:GI}{i:List GI}(h:w.ownsRow b d f g e i)(m:a<=b):w.ownsRow a d f g e i:=by
 obtain⟨h1,h2⟩:=h;refine⟨h1,?_⟩;rcases h2 with h2|⟨k,c,j,e1,e2,l⟩;·exact P3 h2
 ·exact P4 ⟨k,c,j,e1,Y,l⟩
def jz.nil(P:Nat->Prop)(w:Gr)(a b:Nat):jz P w a b (Z N 0 0) 0 []:=⟨aX _ _ _ _,λg h=>by cases h⟩
def jz.of{b c f e:Nat}{a:GI}{i:List GI}(h:w.ownsRow b c f a e i)(j:∀g,a.ownBlock=O g->P g):jz P w c f a e i:=
 ⟨zP h (aH _),λg d=>⟨j g d,(h.lt g d).2⟩⟩
def jz.m{b c n:Nat}{v:GI}{xs:List GI}(h:jz P w b c v n xs)(d:∀g,P g->g<w.heap.size->Q g):jz Q w b c v n xs:=
 ⟨h.1,λg a=>⟨d g (h.2 g a).1 (h.2 g a).2,(h.2 g a).2⟩⟩
def jz.keep{d l k:Nat}{e:GI}{m:List GI}(h:jz P w d l e k m)(p:∀a,P a->a<w.heap.size->w'.heap[a]?=w.heap[a]?):jz P w' d l e k m:=by
 obtain⟨⟨h1,h2⟩,h3⟩:=h;rcases h2 with h2|⟨a,c,f,e1,e2,o,n⟩;·exact⟨⟨h1,P3 h2⟩,λa g=>by rw[h2.1]at g;cases g⟩
 ·have b:e.ownBlock=O a:=by rw[e1];rfl
  have i:w'.heap[a]?=O (Pp f d (0,0)):=by rw[p a (h3 a b).1 (h3 a b).2];exact o
  exact⟨⟨h1,P4 ⟨a,c,f,e1,e2,i,n⟩⟩,λq j=>by rw[b]at j;cases j;exact⟨(h3 a b).1,ae i⟩⟩
def gF.keep:∀(k:Nat) {d:GI} {c:VT k},gF P k w d c->(∀a,P a->a<w.heap.size->w'.heap[a]?=w.heap[a]?)->gF P k w' d c
 |0,_,_,h,_=>h
 |k+1,d,c,h,b=>by obtain⟨n,o,e,p,h1,h2,h3,f,g,j⟩:=h;exact⟨n,o,e,p,h1,h2,h3.keep b,λi q y l m=>gF.keep k (f i q y l m) b,g.keep b,j.keep b⟩
def gF.m:∀(k:Nat) {v:GI} {b:VT k},gF P k w v b->(∀g,P g->g<w.heap.size->Q g)->gF Q k w v b
 |0,_,_,h,_=>h
 |k+1,v,b,h,a=>by obtain⟨m,n,c,o,h1,h2,h3,d,e,f⟩:=h;exact⟨m,n,c,o,h1,h2,h3.m a,λi p y j l=>gF.m k (d i p y j l) a,e.m a,f.m a⟩
def gF.leaf(k:Nat)(a:Nat)(b:Int)(c:Nat)(d:List Nat):gF P (k+1) w (N1 #[I U a,I U b,I U c,MV (ge d),Z N 0 0,Z N 0 0,Z N 0 0]) (jj (VT k) a b c d):=
 ⟨Z N 0 0,Z N 0 0,Z N 0 0,[],rfl,rfl,jz.nil _ _ _ _,λf g h e _=>by simp at e,jz.nil _ _ _ _,jz.nil _ _ _ _⟩
def gF.cells{k:Nat}{v:GI}{V:VT k}(h:gF P k w v V):(cellsOf v).length=7/\∀b∈cellsOf v,b.oneCell'=PV:=by
 cases k with
 |zero=>cases h
 |succ k=>obtain⟨l,m,j,n,rfl,_,d,_,e,c⟩:=h;obtain⟨a1,f,rfl⟩:=jp d.1;obtain⟨a2,g,rfl⟩:=jp e.1;obtain⟨a3,i,rfl⟩:=jp c.1;refine⟨rfl,λb a=>?_⟩;simp[cellsOf,nV,Value.cells]at a;rcases a with rfl|rfl|rfl|rfl|rfl|rfl|rfl<;>rfl
end
