import Derived.Test.YtgkljcmjnphpeaaGreatDoorProg
import Derived.WalkLawsBesides
import Derived.BigQuiet
import Derived.Deep.Light
import Derived.Deep.RegionHeld
set_option linter.unusedVariables false
set_option linter.unusedSimpArgs false
set_option maxHeartbeats 400000
set_option linter.defProp false
namespace Go
def ab:=@List.length_append
def ae:=@Go.lt_of_block
def af:=@Nat.le_refl
def ag:=@List.length_cons
def ai:=@List.getElem?_eq_getElem
def aj:=@Go.RowKit.Below.refl
def ak:=@List.append_assoc
def aq:=@Go.Proofs.Tryz.underlying23
def ar:=@List.getElem?_append_right
def au:=@if_neg
def av:=@List.length_map
def aw:=@List.length_nil
def ax:=@List.length_take
def aA:=@if_pos
def aB:=@Go.World.block_lt_of_cell?
def aC:=@Nat.lt_of_lt_of_le
def aD:=@Nat.le_trans
def aE:=@Nat.zero_le
def aF:=@Go.bodyPost_ret
def aH:=@List.map_append
def aI:=@List.getElem?_append_left
def aJ:=@Go.results_cell_row
def aK:=@Go.wpList_append_own
def aL:=@decide_eq_true
def aP:=@Go.Proofs.Tryz.underlying67
def aQ:=@List.mem_cons_self
def aR:=@Go.ownsRow_setCell_other
def aU:=@List.length_drop
def aV:=@List.mem_cons_of_mem
def aW:=@Array.getElem?_eq_getElem
def aX:=@List.getElem?_eq_some_iff
def aY:=@List.take_of_length_le
def aZ:=@Bool.eq_iff_iff
def a_:=@decide_eq_false
def bj:=@List.getElem?_map
def bk:=@Go.World.ownsRow_nil
def bu:=@Go.info_parts
def bG:=@decide_eq_false_iff_not
def bH:=@List.mem_append
def bI:=@List.getD_eq_getElem?_getD
def bJ:=@List.map_cons
def bK:=@Go.Proofs.Tryz.ntmps176
def bM:=@Go.World.size_alloc
def bN:=@Nat.eq_or_lt_of_le
def bP:=@Go.IntKind.wrap_i64
def bR:=@Go.Proofs.Tryz.func176
def bT:=@List.mem_cons
def bU:=@List.drop_eq_getElem_cons
def bW:=@List.length_replicate
def bX:=@List.take_succ_eq_append_getElem
def bZ:=@Nat.lt_or_ge
def b_:=@Nat.zero_add
def cc:=@List.mem_singleton
def cf:=@Array.getElem?_eq_none
def cj:=@List.cons_append
def cq:=@congrArg
def ct:=@List.append_nil
def cu:=@Go.Proofs.Tryz.underlying29
def cv:=@List.mem_map
def cx:=@List.flatMap_append
def cy:=@Nat.pow_le_pow_right
def cA:=@List.getElem_of_mem
def cB:=@List.mem_of_getElem?
def cC:=@List.nil_append
def cD:=@Go.RowKit.ownsRow_setCell_below
def cE:=@List.dropWhile_cons
def cF:=@List.getElem?_take_of_lt
def cG:=@List.eq_nil_of_length_eq_zero
def cH:=@List.flatMap_cons
def cI:=@List.take_append_drop
def cJ:=@Array.getElem?_setIfInBounds_ne
def cK:=@List.mem_of_mem_take
def cL:=@Nat.add_assoc
def cM:=@Nat.mul_le_mul_right
def cN:=@Go.Proofs.Tryz.underlying9
def cP:=@List.take_add_one
def cQ:=@decide_eq_true_eq
def cR:=@List.getElem?_take
def cT:=@List.dropWhile_suffix
def cU:=@List.length_eq_zero_iff
def cW:=@List.mem_of_mem_drop
def cX:=@Nat.div_div_eq_div_mul
def cY:=@Array.getElem?_toList
def cZ:=@Go.Calls.quiet_of_same
def c_:=@List.exists_cons_of_ne_nil
def df:=@List.getElem_mem
def dq:=@Go.Proofs.Tryz.underlying52
def dt:=@List.drop_of_length_le
def du:=@decide_eq_true_iff
def dx:=@Nat.min_eq_left
def dy:=@Option.some.inj
def dz:=@Go.Proofs.Tryz.results59
def dA:=@Array.getElem?_setIfInBounds_self_of_lt
def dB:=@Go.RowKit.Below.heap_setCell
def dC:=@List.getElem?_drop
def dD:=@Nat.lt_of_le_of_lt
def dE:=@Go.Proofs.Tryz.underlying184
def dF:=@List.all_eq_true
def dG:=@Nat.pow_succ
def dH:=@Go.Proofs.Tryz.underlying5
def dI:=@List.getElem?_toArray
def dJ:=@Bool.true_and
def dK:=@Nat.eq_zero_or_pos
def dL:=@Array.mem_toList_iff
def dM:=@List.take_length
def dN:=@decide_eq_decide
def dP:=@Go.Proofs.Tryz.ntmps177
def dQ:=@Array.mem_iff_getElem?
def dR:=@List.map_nil
def dS:=@List.size_toArray
def dT:=@Nat.mul_comm
def dU:=@Nat.sub_self
def dV:=@Nat.le_succ
def dW:=@Go.wpList_load_mid
def dX:=@Bool.and_eq_true
def dY:=@List.drop_length
def dZ:=@List.map_map
def d7:=@Go.Proofs.Tryz.func177
def d8:=@Go.Proofs.Tryz.ntmps132
def d9:=@List.getElem?_cons_succ
def d_:=@Go.Proofs.Tryz.underlying38
def ed:=@List.drop_left'
def ee:=@Array.length_toList
def eg:=@List.takeWhile_cons
def eh:=@Go.Proofs.Tryz.func132
def ek:=@List.sum_cons
def eq:=@Go.Proofs.Tryz.ntmps326
def ew:=@Nat.mod_eq_of_lt
def eA:=@List.drop_drop
def eB:=@List.drop_zero
def eC:=@Array.getElem?_modify
def eD:=@List.length_singleton
def eE:=@List.takeWhile_prefix
def eF:=@List.length_set
def eG:=@Ne.symm
def eH:=@Go.Result.andThen_ok
def eI:=@Go.Proofs.Tryz.func326
def eJ:=@Go.Proofs.Tryz.ntmps80
def eK:=@Go.Proofs.Tryz.underlying42
def eL:=@Go.getD_set_ne
def eM:=@Nat.mul_assoc
def eN:=@Go.Proofs.Tryz.ntmps157
def eO:=@Go.ByteArray.toList_eq
def eP:=@List.length_pos_iff
def eQ:=@Go.RowKit.Below.heap_alloc
def eR:=@List.map_toArray
def eS:=@List.not_mem_nil
def eT:=@List.suffix_refl
def eU:=@Nat.add_sub_cancel_left
def eV:=@Go.growslice_fits
def eW:=@Go.wpList_store_mid
def eX:=@Go.Proofs.Tryz.func80
def eY:=@Go.MapKept.run_getObj_map
def eZ:=@Nat.add_sub_cancel
def e_:=@Nat.le_of_lt
def ff:=@Go.Proofs.Tryz.func157
def fg:=@Go.World.ownsRow.drew
def fh:=@Go.wpList_plain
def fi:=@Int.natCast_mul
def fj:=@Go.IntKind.wrap_u8
def fk:=@Go.Proofs.Tryz.results192
def fp:=@Go.Proofs.Tryz.results256
def fq:=@Go.Proofs.Tryz.results263
def fr:=@and_assoc
def ft:=@List.set_append_right
def fu:=@List.count_append
def fw:=@Nat.le_succ_of_le
def fy:=@Array.replicate_succ
def fA:=@Array.replicate_zero
def fD:=@Go.Calls.quiet_of
def fE:=@Int.tmod_eq_emod_of_nonneg
def fF:=@List.isPrefixOf_iff_prefix
def fG:=@Nat.mod_two_eq_zero_or_one
def fH:=@List.suffix_cons
def fI:=@Nat.add_zero
def fJ:=@List.getElem?_zip_eq_some
def fK:=@List.append_toArray
def fL:=@List.replicate_succ
def fM:=@Array.size_setIfInBounds
def fP:=@ByteArray.ext
def fQ:=@List.all_cons
def fR:=@Go.Proofs.Tryz.ntmps158
def fS:=@Go.run_convert_bytes_string
def fU:=@List.foldl_cons
def fV:=@List.length_zip
def fW:=@List.of_mem_zip
def fX:=@Option.map_some
def fY:=@Go.grownCap_le_maxLen
def fZ:=@Go.Proofs.Tryz.func158
def f7:=@Go.Proofs.Tryz.underlying31
def f9:=@Go.Proofs.Tryz.underlying3
def f_:=@Go.Proofs.Tryz.ntmps230
def gd:=@Go.Proofs.Tryz.ntmps278
def ge:=@Go.Proofs.Tryz.func230
def gg:=@Go.Proofs.Tryz.func278
def gh:=@Go.Proofs.Tryz.func290
def gj:=@Go.Proofs.Tryz.ntmps154
def gn:=@Go.Proofs.Tryz.ntmps161
def gq:=@Go.Proofs.Tryz.ntmps275
def gt:=@Go.Proofs.Tryz.ntmps290
def gu:=@Go.Proofs.Tryz.ntmps327
end Go
namespace Go.Proofs.YtgkljcmjnphpeaaGreatDoor
open Go.RowKit
theorem wi(c d b:Int)(e:World):Calls Tryz.prog 63 #[.int .i64 c,.int .i64 d,.int .i64 b] e λf g=>f=.returned (.bool (decide (d<=c)&&decide (c<=b)))/\g=e:=by
 go_enter Tryz.func63,Tryz.ntmps63;go_wp2;all_goals (go_ret;refine⟨?_,rfl⟩)
 ·rename_i a;simp[a]
 ·rename_i a;simp[a];omega
theorem pG(a c b:Int)(d:World)(f:c<=a)(g:a<=b):Calls Tryz.prog 63 #[.int .i64 a,.int .i64 c,.int .i64 b] d λe h=>e=.returned (.bool true)/\h=d:=by have:=wi a c b d;simpa[f,g]using this
theorem sF(a c b:Int)(e:World)(g:a<c\/b<a):Calls Tryz.prog 63 #[.int .i64 a,.int .i64 c,.int .i64 b] e λd f=>d=.returned (.bool false)/\f=e:=by
 have d:(decide (c<=a)&&decide (a<=b))=false:=by simp;omega
 have:=wi a c b e;rw[d]at this;exact this
theorem xR(c d b:Int)(e:World):Calls Tryz.prog 216 #[.int .u8 c,.int .u8 d,.int .u8 b] e λf g=>f=.returned (.bool (decide (d<=c)&&decide (c<=b)))/\g=e:=by
 go_enter Tryz.func216,Tryz.ntmps216;go_wp2;all_goals (go_ret;refine⟨?_,rfl⟩)
 ·rename_i a;simp[a]
 ·rename_i a;simp[a];omega
theorem zD(a c b:Int)(d:World)(f:c<=a)(g:a<=b):Calls Tryz.prog 216 #[.int .u8 a,.int .u8 c,.int .u8 b] d λe h=>e=.returned (.bool true)/\h=d:=by have:=xR a c b d;simpa[f,g]using this
theorem LM(a c b:Int)(e:World)(g:a<c\/b<a):Calls Tryz.prog 216 #[.int .u8 a,.int .u8 c,.int .u8 b] e λd f=>d=.returned (.bool false)/\f=e:=by
 have d:(decide (c<=a)&&decide (a<=b))=false:=by simp;omega
 have:=xR a c b e;rw[d]at this;exact this
theorem qL(w:World):Calls Tryz.prog 163 #[.bool true] w λa b=>a=.returned (.tuple #[])/\b=w:=by
 go_enter Tryz.func163,Tryz.ntmps163;go_wp2
 go_end0
 exact⟨rfl,rfl⟩
theorem Jv(a:World):Calls Tryz.prog 163 #[.bool false] a λb c=>b=.panicked [{ v:=.iface 58 (.int .i64 5),recovered:=false }]/\c=a:=by go_enter Tryz.func163,Tryz.ntmps163;go_wp2;exact⟨rfl,rfl,rfl⟩
theorem iw(a:Int)(b:World):Calls Tryz.prog 250 #[.int .u8 a] b λc d=>c=.returned (.bool (a==0||a==9||a==10||a==12||a==13||a==32))/\d=b:=by go_enter Tryz.func250,Tryz.ntmps250;go_wp2;all_goals (go_ret;exact⟨by simp[*],rfl⟩)
end Go.Proofs.YtgkljcmjnphpeaaGreatDoor
namespace Go
section
open Go.RowKit
theorem lq{a:World}{b i:Nat}{c:Array Value}{e:TypeId}{d:Nat × Nat}(v:Value)(f:a.heap[b]?=some (.cells c e d)) :
  (a.setCell ⟨b,i,none⟩ v).heap[b]?=some (.cells (c.setIfInBounds i v) e d):=by
 have g:=ae f;have h:a.heap[b]=.cells c e d:=by simpa[aW g]using f
 show(a.heap.modify b _)[b]?=_;rw[aW (by simpa using g),Array.getElem_modify_self,h];rfl
theorem jL{w:World}{b a d:Nat}(e:Value)(c:a≠b):(w.setCell ⟨b,d,none⟩ e).heap[a]?=w.heap[a]? :=
 dB _ _ _ _ c
theorem l9{d:World}{b:Nat}{c:Obj}(e:Obj)(a:d.heap[b]?=some c):(d.alloc e).heap[b]?=some c:=by rw[eQ _ _ _ (ae a)];exact a
theorem jd(w:World)(a:Obj):(w.alloc a).heap[w.heap.size]?=some a:=by show(w.heap.push a)[w.heap.size]?=_;simp
theorem cb{w:World}{b i:Nat}{a:Array Value}{e:TypeId}{c:Nat × Nat}(d:w.heap[b]?=some (.cells a e c)):w.cell? ⟨b,i,none⟩=a[i]?:=by simp[World.cell?,d]
theorem nP{a:World}{b i:Nat}{c:Array Value}{e:TypeId}(d:a.heap[b]?=some (.cells c e (0,0))):a.frozen? ⟨b,i,none⟩=false:=by simp[World.frozen?,d]
theorem own_ne{f:World}{g b:Nat}{c d:TypeId}{p o:Nat}{e:Value}{q:List Value}{h:Array Value}{i:Nat × Nat}(k:f.ownsRow g c p e o q)(a:f.heap[b]?=some (.cells h d i))(n:d≠c):e.ownBlock≠some b:=by
 rcases k.2 with⟨rfl,_⟩ | ⟨j,r,s,rfl,_,m,_⟩;·simp[Value.ownBlock]
 ·intro l;have:j=b:=by simpa[Value.ownBlock]using l
  subst this;rw[m]at a;simp at a;exact n a.2.1.symm
theorem cn{c:World}{a b:Addr}(d:Value)(f:a.block≠b.block):(c.setCell a d).cell? b=c.cell? b:=World.cell?_setCell_other c a b d (λe=>f (by rw[e]))
structure gD(e:TypeId)(B:Nat)(S:List Nat)(w w':World):Prop where
 os:w'.os=w.os
 tape:w'.tape=w.tape
 output:w'.output=w.output
 size:w.heap.size<=w'.heap.size
 block:∀k o,k∉S->w.heap[k]?=some o->(k<B\/∀c fz,o≠.cells c e fz)->w'.heap[k]?=some o
variable{e:TypeId}{B:Nat}{S:List Nat}
theorem gD.refl(e:TypeId)(B:Nat)(S:List Nat)(w:World):gD e B S w w:=⟨rfl,rfl,rfl,af _,λ_ _ _ a _=>a⟩
theorem gD.trans{a b d:World}(c:gD e B S a b)(k:gD e B S b d):gD e B S a d:=
 ⟨k.os.trans c.os,k.tape.trans c.tape,k.output.trans c.output,aD c.size k.size,λh i g j f=>k.block h i g (c.block h i g j f) f⟩
theorem gD.mono{c:List Nat}{d b:World}(a:gD e B S d b)(j:∀k,k∈S->k∈c):gD e B c d b:=
 ⟨a.os,a.tape,a.output,a.size,λi l g h f=>a.block i l (λm=>g (j i m)) h f⟩
theorem gD.drewN{b w:World}(a:gD e B S b w)(n:Nat):gD e B S b (w.drewN n):=⟨a.os,a.tape,a.output,a.size,a.block⟩
theorem gD.drew{b w:World}(a:gD e B S b w):gD e B S b w.drew:=⟨a.os,a.tape,a.output,a.size,a.block⟩
theorem gD.alloc{a w:World}(b:gD e B S a w)(d:Obj):gD e B S a (w.alloc d):=
 b.trans ⟨rfl,rfl,rfl,by simp,λ_ _ _ c _=>l9 _ c⟩
theorem gD.setCell{a w:World}(c:gD e B S a w){p:Addr}(g:p.block∈S)(h:Value):gD e B S a (w.setCell p h):=
 c.trans ⟨rfl,rfl,rfl,by simp[World.setCell],λk _ (d:k∉S) f _=>by rw[dB _ _ _ _ (λb=>d (by rw[b];exact g))];exact f⟩
theorem gD.grown{h w j:World}{i:Option Nat}(m:gD e B S h w)(a:w.grownBy j i)(o:∀g,i=some g->B<=g/\∃d f,w.heap[g]?=some (.cells d e f)):gD e B S h j :=
 m.trans ⟨a.os,a.tape,a.output,a.size,λk q _ c b=>by
  rw[a.block k (ae c) (λl=>by
   obtain⟨p,d,f,n⟩:=o k l.symm;rw[n]at c;rcases b with b | b;·omega
   ·exact b d f (dy c).symm)]
  exact c⟩
theorem gD.below{a b:World}(c:gD e B S a b)(j:B<=a.heap.size)(h:∀k,k∈S->B<=k):Below B a b:=
 ⟨c.os,c.tape,c.output,c.size,λk g=>by obtain⟨d,f⟩:∃d,a.heap[k]?=some d:=⟨a.heap[k]'(by omega),aW _⟩;rw[f];exact c.block k d (λi=>by have:=h k i;omega) f (Or.inl g)⟩
theorem gD.cell{a b:World}(h:gD e B S a b)(l:∀k,k∈S->B<=k){p:Addr}{g:Value}(j:p.block<B)(f:a.cell? p=some g):b.cell? p=some g:=by have i:=aB a p f;obtain⟨c,d⟩:∃c,a.heap[p.block]?=some c:=⟨a.heap[p.block]'i,aW _⟩;have:=h.block p.block c (λm=>by have:=l _ m;omega) d (Or.inl j);rw[World.cell?_of_block (w:=a) (this.trans d.symm)];exact f
theorem nR{w:World}{B:Nat}{e:TypeId}{k j:Nat}{d:Value}{l:List Value}(g:w.ownsRow B e k d j l):∀a,d.ownBlock=some a->B<=a/\∃b f,w.heap[a]?=some (.cells b e f):=by
 intro a c;rcases g.2 with⟨rfl,_⟩ | ⟨n,m,b,rfl,h,i,_⟩;·simp[Value.ownBlock]at c
 ·simp[Value.ownBlock]at c;subst c;exact⟨h,b,_,i⟩
theorem i_{w:World}{B e n:Nat}{a:Value}{xs:List Value}{f:Nat}(d:w.ownsRow B e f a n xs):∃b c,a=.slice b n c:=by
 rcases d.2 with⟨e1,e2⟩ | ⟨h,cap,g,e1,_⟩;·exact⟨none,0,by rw[e1,e2]⟩
 ·exact⟨_,_,e1⟩
theorem mb{a:World}{b:Nat}{c:Value}{g:List Value}{h:TypeId}{d:Nat × Nat}(f:a.heap[b]?=some (.cells (c::g).toArray h d)):a.cell? ⟨b,0,none⟩=some c:=cb f
theorem oB{w:World}{b:Nat}{h a:Value}{f:List Value}{g:TypeId}{c:Nat × Nat}(d:w.heap[b]?=some (.cells (h::a::f).toArray g c)):w.cell? ⟨b,1,none⟩=some a:=cb d
theorem qJ{a:World}{b:Nat}{i j c:Value}{g:List Value}{h:TypeId}{d:Nat × Nat}(f:a.heap[b]?=some (.cells (i::j::c::g).toArray h d)):a.cell? ⟨b,2,none⟩=some c:=cb f
theorem qU{a:World}{b:Nat}{i j k c:Value}{g:List Value}{h:TypeId}{d:Nat × Nat}(f:a.heap[b]?=some (.cells (i::j::k::c::g).toArray h d)):a.cell? ⟨b,3,none⟩=some c:=cb f
theorem pV{a:World}{b:Nat}{i j k l c:Value}{g:List Value}{h:TypeId}{d:Nat × Nat}(f:a.heap[b]?=some (.cells (i::j::k::l::c::g).toArray h d)):a.cell? ⟨b,4,none⟩=some c:=cb f
theorem rj{a:World}{b:Nat}{i j k l m c:Value}{g:List Value}{h:TypeId}{d:Nat × Nat}(f:a.heap[b]?=some (.cells (i::j::k::l::m::c::g).toArray h d)):a.cell? ⟨b,5,none⟩=some c:=cb f
theorem sJ{w:World}{b:Nat}{h i j k l m a:Value}{f:List Value}{g:TypeId}{c:Nat × Nat}(d:w.heap[b]?=some (.cells (h::i::j::k::l::m::a::f).toArray g c)):w.cell? ⟨b,6,none⟩=some a:=cb d
theorem Hs{a:World}{b:Nat}{d f g:Value}{i:List Value}{j:TypeId}{h:Nat × Nat}(c:a.heap[b]?=some (.cells (d::f::g::i).toArray j h)):a.cell? ⟨b,0,none⟩=some d/\a.cell? ⟨b,1,none⟩=some f/\a.cell? ⟨b,2,none⟩=some g:=⟨mb c,oB c,qJ c⟩
theorem CK{a:World}{b:Nat}{d f g h:Value}{j:List Value}{k:TypeId}{i:Nat × Nat}(c:a.heap[b]?=some (.cells (d::f::g::h::j).toArray k i)):a.cell? ⟨b,0,none⟩=some d/\a.cell? ⟨b,1,none⟩=some f/\a.cell? ⟨b,2,none⟩=some g/\a.cell? ⟨b,3,none⟩=some h:=⟨mb c,oB c,qJ c,qU c⟩
theorem Mp{a:World}{b:Nat}{d f g h i:Value}{k:List Value}{l:TypeId}{j:Nat × Nat}(c:a.heap[b]?=some (.cells (d::f::g::h::i::k).toArray l j)):a.cell? ⟨b,0,none⟩=some d/\a.cell? ⟨b,1,none⟩=some f/\a.cell? ⟨b,2,none⟩=some g/\a.cell? ⟨b,3,none⟩=some h/\a.cell? ⟨b,4,none⟩=some i:=⟨mb c,oB c,qJ c,qU c,pV c⟩
theorem Mq{a:World}{b:Nat}{d f g h i j:Value}{l:List Value}{m:TypeId}{k:Nat × Nat}(c:a.heap[b]?=some (.cells (d::f::g::h::i::j::l).toArray m k)):a.cell? ⟨b,0,none⟩=some d/\a.cell? ⟨b,1,none⟩=some f/\a.cell? ⟨b,2,none⟩=some g/\a.cell? ⟨b,3,none⟩=some h/\a.cell? ⟨b,4,none⟩=some i/\a.cell? ⟨b,5,none⟩=some j:=⟨mb c,oB c,qJ c,qU c,pV c,rj c⟩
theorem oX{w:World}{b:Nat}{c d f g h i j:Value}{l:List Value}{m:TypeId}{k:Nat × Nat}(a:w.heap[b]?=some (.cells (c::d::f::g::h::i::j::l).toArray m k)):w.cell? ⟨b,0,none⟩=some c/\w.cell? ⟨b,1,none⟩=some d/\w.cell? ⟨b,2,none⟩=some f/\w.cell? ⟨b,3,none⟩=some g/\w.cell? ⟨b,4,none⟩=some h/\w.cell? ⟨b,5,none⟩=some i/\w.cell? ⟨b,6,none⟩=some j:=⟨mb a,oB a,qJ a,qU a,pV a,rj a,sJ a⟩
theorem ix(d:Nat){w:World}{b:Nat}{a:Array Value}{f:TypeId}(c:w.heap[b]?=some (.cells a f (0,0))):w.frozen? ⟨b,d,none⟩=false:=nP c
end
end Go
namespace Go.Proofs.YtgkljcmjnphpeaaGreatDoor
open Go.RowKit
section
def nth(d:List Nat)(a:Nat):Nat:=d.getD a 0
def nA(w:World)(e:Nat)(f:Option Addr)(c:List Nat):Prop:=∀a,a<c.length->∃b d,f=some ⟨b,d,none⟩/\b<e/\w.cell? ⟨b,d+a,none⟩=some (.int .u8 (nth c a:Nat))
structure Rd(B br bd off cap:Nat)(d:List Nat)(most:Nat)(w:World)(p:Nat)(f:Value)(out:List Nat):Prop where
 hB:bd<B
 hb:B<=br
 blk:w.heap[br]?=some (.cells #[.slice (some ⟨bd,off,none⟩) d.length cap,.int .i64 p,f,.int .i64 most] 141 (0,0))
 dat:∀i,i<d.length->w.cell? ⟨bd,off+i,none⟩=some (.int .u8 (nth d i:Nat))
 own:w.ownsRow B 5 1 f out.length (out.map λx:Nat=>.int .u8 (x:Int))
 byt:∀i,i<d.length->nth d i<256
 cp:d.length<=cap
 lc:cap<=9223372036854775807
 lm:most<=1000000
 lo:out.length<=most
 lp:p<=d.length
variable{B br bd off cap:Nat}{d:List Nat}{most:Nat}{w:World}{p:Nat}{f:Value}{out:List Nat}
theorem Rd.c0(a:Rd B br bd off cap d most w p f out):w.cell? ⟨br,0,none⟩=some (.slice (some ⟨bd,off,none⟩) d.length cap):=cb a.blk
theorem Rd.c1(a:Rd B br bd off cap d most w p f out):w.cell? ⟨br,1,none⟩=some (.int .i64 p):=cb a.blk
theorem Rd.c2(a:Rd B br bd off cap d most w p f out):w.cell? ⟨br,2,none⟩=some f:=cb a.blk
theorem Rd.c3(a:Rd B br bd off cap d most w p f out):w.cell? ⟨br,3,none⟩=some (.int .i64 most):=cb a.blk
theorem Rd.fz(a:Rd B br bd off cap d most w p f out)(i:Nat):w.frozen? ⟨br,i,none⟩=false:=nP a.blk
theorem Rd.drewN(a:Rd B br bd off cap d most w p f out)(n:Nat):Rd B br bd off cap d most (w.drewN n) p f out:=
 ⟨a.hB,a.hb,a.blk,a.dat,a.own,a.byt,a.cp,a.lc,a.lm,a.lo,a.lp⟩
theorem Rd.sz(a:Rd B br bd off cap d most w p f out):B<w.heap.size:=by have:=a.hb;have:=ae a.blk;omega
theorem Rd.alloc(a:Rd B br bd off cap d most w p f out)(c:Obj):Rd B br bd off cap d most (w.alloc c) p f out:=
 ⟨a.hB,a.hb,l9 _ a.blk,λi b=>by rw[World.cell?_alloc_lt _ _ _ (by have:=a.sz;have:=a.hB;show bd<_;omega)];exact a.dat i b,a.own.alloc _,a.byt,a.cp,a.lc,a.lm,a.lo,a.lp⟩
theorem Rd.set1(a:Rd B br bd off cap d most w p f out)(b:Nat)(e:b<=d.length):Rd B br bd off cap d most (w.setCell ⟨br,1,none⟩ (.int .i64 b)) b f out:=by
 have h:=a.hB;have i:=a.hb;refine⟨a.hB,a.hb,?_,?_,?_,a.byt,a.cp,a.lc,a.lm,a.lo,e⟩;·rw[lq _ a.blk];rfl
 ·intro g c;rw[cn _ (by show br≠bd;omega)];exact a.dat g c
 ·exact aR a.own (own_ne a.own a.blk (by decide)) _
theorem Ae(a:Rd B br bd off cap d most w p f out)(b:Nat)(o:0<b)(g:p+b<=d.length) :
  Calls Tryz.prog 164 #[.pointer (some ⟨br,0,none⟩),.int .i64 b] w λe c=>e=.returned (.slice (some ⟨bd,off+p,none⟩) b (cap-p))/\Rd B br bd off cap d most c (p+b) f out/\gD 5 B [br] w c:=by
 have l:=a.c0;have m:=a.c1;have n:=a.fz 1;have h:=a.cp;have i:=a.lc;have j:=a.lp;have k:=a.hb;have q:(b:Int)<=(d.length:Int)-(p:Int):=by omega
 go_enter Tryz.func164,Tryz.ntmps164;go_wp2_with fail;go_quiet ((go_at_call 163;exact cZ (qL _)));go_wp2_with fail;go_quiet (fail);go_wp2;go_ret;refine⟨?_,?_,?_⟩
 ·show Ending.returned (.slice (some ⟨bd,off+p,none⟩) (p+b-p) (cap-p))=_;rw[eU]
 ·exact(a.drewN _).set1 (p+b) g
 ·exact((gD.refl _ _ _ _).drewN _).setCell (by simp) _
theorem tR(e:Rd B br bd off cap d most w p f out)(h:p<d.length) :
  Calls Tryz.prog 214 #[.pointer (some ⟨br,0,none⟩)] w λb a=>b=.returned (.int .u8 (nth d p:Nat))/\Rd B br bd off cap d most a (p+1) f out/\gD 5 B [br] w a:=by
 go_enter Tryz.func214,Tryz.ntmps214;go_wp2_with (go_at_call 164;refine(Ae e 1 (by omega) (by omega)).mono ?_;rintro b a ⟨rfl,c,g⟩;have i:=c.dat p h);go_ret;exact⟨rfl,c,g⟩
def posOf(br:Nat)(w:World):Nat:=(intOf ((w.cell? ⟨br,1,none⟩).getD undef)).toNat
theorem Rd.posOf(a:Rd B br bd off cap d most w p f out):posOf br w=p:=by unfold Go.Proofs.YtgkljcmjnphpeaaGreatDoor.posOf;rw[a.c1];simp[intOf]
theorem _root_.Go.RowKit.Hid.o{p:Prop}(a:Hid p):p:=a
theorem gv{q:Prop}(a:q):Hid q:=a
theorem Tryz.infoByte:(Tryz.prog.info? 5).map (λa=>(a.zero,a.size,a.bytes))=some (some (.int .u8 0),1,1):=by kernel_rfl
theorem DJ(a:Rd B br bd off cap d most w p f out)(c:Nat)(m:out.length+c<=most) :
  Calls Tryz.prog 276 #[.pointer (some ⟨br,0,none⟩),.int .i64 c] w λg i=>g=.returned (.tuple #[])/\∃h,i=w.drewN h:=by
 have e:=a.c2;have l:=a.c3;have k:=a.lm;obtain⟨j,n,b⟩:=i_ a.own;rw[b]at e;clear b;go_enter Tryz.func276,Tryz.ntmps276;go_wp2_with fail;go_quiet ((go_at_call 63;exact cZ (pG _ _ _ _ (by omega) (by omega))));go_wp2
 go_end0
 exact⟨rfl,_,rfl⟩
theorem Rd.grown_blk(a:Rd B br bd off cap d most w p f out){b:World}(e:w.grownBy b f.ownBlock) :
  b.heap[br]?=some (.cells #[.slice (some ⟨bd,off,none⟩) d.length cap,.int .i64 p,f,.int .i64 most] 141 (0,0)):=by
 rw[e.block br (ae a.blk) (λc=>own_ne a.own a.blk (by decide) c.symm)];exact a.blk
theorem Rd.put(a:Rd B br bd off cap d most w p f out){c:World}{b:Value}{xs:List Nat}(m:out.length+xs.length<=most)
  (j:c.ownsRow B 5 1 b (out.length+xs.length) ((out.map λe:Nat=>.int .u8 (e:Int))++(xs.map λe:Nat=>.int .u8 (e:Int)))) (g:w.grownBy c f.ownBlock) :
  Rd B br bd off cap d most (c.setCell ⟨br,2,none⟩ b) p b (out++xs):=by
 have n:=a.hB;have o:=a.hb;have h:=a.grown_blk g;refine⟨a.hB,a.hb,?_,?_,?_,a.byt,a.cp,a.lc,a.lm,by simpa using m,a.lp⟩;·rw[lq _ h];rfl
 ·intro i l;rw[cn _ (by show br≠bd;omega)];refine g.cell (a.dat i l) (λk=>?_);have:=(a.own.lt _ k.symm).1;simp at this;omega
 ·rw[ab,aH];exact aR j (own_ne j h (by decide)) _
theorem zZ(b:Rd B br bd off cap d most w p f out)(a:List Nat)(i:Addr)(q:Nat)(r:out.length+a.length<=most)(A:B<=w.heap.size)
  (y:∀m,m<a.length->w.cell? (i.add m)=some (.int .u8 (nth a m:Nat))) :
  Calls Tryz.prog 213 #[.pointer (some ⟨br,0,none⟩),.slice (some i) a.length q] w λg o=>g=.returned (.tuple #[])/\∃H,Rd B br bd off cap d most o p H (out++a)/\gD 5 B [br] w o:=by
 obtain⟨F,z,C,D,E⟩:=bu Tryz.infoByte;have K:=b.c2;have J:=b.lm;go_enter Tryz.func213,Tryz.ntmps213;go_wp2_with (first | (go_at_call 276;refine(DJ b _ r).mono ?_;rintro g o ⟨rfl,N,rfl⟩) | (at_builtin;refine aK _ rfl (.tmp 12) (.tmp 13) 23 rfl B 5 F (.int .u8 0) 1 1 aq z C D E rfl (by decide) f out.length _ rfl b.own i a.length q (a.map λt:Nat=>.int .u8 (t:Int)) rfl (by simp) ?hnews ?hone ?h63 ?hby A ?_))
 case hnews =>
  intro n s e;have j:n<a.length:=by have:=(aX.1 e).1;simpa using this
  have g:s=.int .u8 (nth a n:Nat):=by simp[j]at e;simp[nth,j,e]
  rw[g];exact y n j
 case hone=>intro s e;simp at e;obtain⟨t,_,rfl⟩:=e;rfl
 case h63=>unfold maxLen;omega
 case hby=>omega
 intro O I l c _;have h:w.grownBy I f.ownBlock:=⟨c.os,c.tape,c.output,c.size,c.block⟩;clear c;have k:=b.grown_blk h;have M:=qJ k;have L:=ix 2 k;obtain⟨x,G,rfl⟩:=i_ l;have v:=b.put r l h;have u:=((gD.refl 5 B [br] w).grown h (nR b.own)).setCell (p:=⟨br,2,none⟩) (by simp) (.slice x (out.length+a.length) G);clear l h k;go_wp2
 go_end0
 exact⟨rfl,_,v,u⟩
theorem Gf(g:Rd B br bd off cap d most w p f out)(c:Nat)(h:Int)(l:h=c)(j:out.length+1<=most) :
  Calls Tryz.prog 213 #[.pointer (some ⟨br,0,none⟩),.slice (some ⟨w.heap.size,0,none⟩) 1 1] (w.alloc (.cells #[.int .u8 h] 5)) λe b=>e=.returned (.tuple #[])/\∃a,Rd B br bd off cap d most b p a (out++[c])/\gD 5 B [br] w b:=by
 subst l;have n:=g.sz;refine(zZ (g.alloc _) [c] ⟨w.heap.size,0,none⟩ 1 j (by simp;omega) ?_).mono ?_
 ·intro m i;obtain rfl:m=0:=by simpa using i
  show(w.alloc _).cell? ⟨w.heap.size,0+0,none⟩=_;rw[World.cell?_alloc_new];rfl
 ·rintro e b ⟨rfl,a,r,k⟩;exact⟨rfl,a,r,((gD.refl _ _ _ _).alloc _).trans k⟩
end
section
variable{B i j f b:Nat}{d:List Nat}{a:Nat}{w:World}{p:Nat}{k:Value}{g:List Nat}
def lM(c:Nat):Bool:=c==0||c==9||c==10||c==12||c==13||c==32
theorem LQ(c:Nat)(w:World)(h:lM c=false):Calls Tryz.prog 250 #[.int .u8 c] w λe l=>e=.returned (.bool false)/\l=w:=by
 have e:((c:Int)==0||(c:Int)==9||(c:Int)==10||(c:Int)==12||(c:Int)==13||(c:Int)==32)=false:=by simp[lM]at h ⊢;omega
 have:=iw c w;rw[e]at this;exact this
theorem Lh(c:Rd B i j f b d a w p k g)(l:p<d.length)(m:lM (nth d p)=false) :
  Calls Tryz.prog 188 #[.slice (some ⟨j,f,none⟩) d.length b,.int .i64 p] w λe h=>e=.returned (.int .i64 p)/\h=w:=by
 have q:=c.dat p l;have n:=c.cp;have o:=c.lc;go_enter Tryz.func188,Tryz.ntmps188;go_wp2
 go_step3
 go_wp2
 go_step3
 go_wp2_with (go_at_call 250;refine(LQ _ _ m).mono ?_;rintro e h ⟨rfl,rfl⟩);try rw[Exit.noGoto_ret]
 go_ret;exact⟨rfl,rfl⟩
theorem Lg(c:Rd B i j f b d a w d.length k g) :
  Calls Tryz.prog 188 #[.slice (some ⟨j,f,none⟩) d.length b,.int .i64 d.length] w λe h=>e=.returned (.int .i64 d.length)/\h=w:=by
 have l:=c.cp;have m:=c.lc;go_enter Tryz.func188,Tryz.ntmps188;go_wp2
 go_step3
 go_wp2
 go_step3
 go_wp2;try rw[Exit.noGoto_ret]
 go_ret;exact⟨rfl,rfl⟩
theorem Bf(h:Rd B i j f b d a w p k g)(l:Nat)(n:l<=d.length)
  (m:Calls Tryz.prog 188 #[.slice (some ⟨j,f,none⟩) d.length b,.int .i64 p] (w.drewN 1) λe c=>e=.returned (.int .i64 l)/\c=w.drewN 1) :
  Calls Tryz.prog 155 #[.pointer (some ⟨i,0,none⟩)] w λe c=>e=.returned (.tuple #[])/\Rd B i j f b d a c l k g/\gD 5 B [i] w c:=by
 have o:=h.c0;have q:=h.c1;have r:=h.fz 1;go_enter Tryz.func155,Tryz.ntmps155;go_wp2_with fail;go_region_with (go_at_call 188;refine m.mono ?_;rintro e c ⟨rfl,rfl⟩);all_goals go_wp2
 all_goals go_end0
 all_goals exact⟨rfl,(h.drewN 1).set1 l n,((gD.refl _ _ _ _).drewN 1).setCell (by simp) _⟩
theorem KT(c:Rd B i j f b d a w p k g)(l:p<d.length)(m:lM (nth d p)=false) :
  Calls Tryz.prog 155 #[.pointer (some ⟨i,0,none⟩)] w λh e=>h=.returned (.tuple #[])/\Rd B i j f b d a e p k g/\gD 5 B [i] w e :=
 Bf c p c.lp (Lh (c.drewN 1) l m)
theorem Ba(c:Rd B i j f b d a w d.length k g) :
  Calls Tryz.prog 155 #[.pointer (some ⟨i,0,none⟩)] w λh e=>h=.returned (.tuple #[])/\Rd B i j f b d a e d.length k g/\gD 5 B [i] w e :=
 Bf c d.length (af _) (Lg (c.drewN 1))
theorem sM(l:Rd B i j f b d a w p k g)(e:p<d.length)(o:lM (nth d p)=false) :
  Calls Tryz.prog 211 #[.pointer (some ⟨i,0,none⟩)] w λc h=>c=.returned (.int .u8 (nth d p:Nat))/\Rd B i j f b d a h (p+1) k g/\gD 5 B [i] w h:=by
 go_enter Tryz.func211,Tryz.ntmps211;go_wp2_with (first | (go_at_call 155;refine(KT l e o).mono ?_;rintro c s ⟨rfl,m,q⟩) | (go_at_call 214;refine(tR m e).mono ?_;rintro c t ⟨rfl,n,r⟩));go_ret;exact⟨rfl,n,q.trans r⟩
theorem eo(c:Rd B i j f b d a w d.length k g) :
  Calls Tryz.prog 156 #[.pointer (some ⟨i,0,none⟩)] w λe l=>e=.returned (.tuple #[])/\∃h,l=w.drewN h:=by
 have m:=c.c0;have n:=c.c1;go_enter Tryz.func156,Tryz.ntmps156;go_wp2_with fail;go_quiet ((go_at_call 163;exact cZ (qL _)));go_wp2
 go_end0
 exact⟨rfl,_,rfl⟩
end
def gP(a:Nat):Nat:=if a<10 then 48+a else 87+a
def iQ(a:Nat):Option Nat:=if 48<=a/\a<=57 then some (a-48)else if 97<=a/\a<=102 then some (a-97+10)else if 65<=a/\a<=70 then some (a-65+10)else none
def iH(a:List Nat):List Nat:=a.flatMap λb=>[gP (b/16),gP (b%16)]
def sU(a:Nat):Bool:=a==0||a==9||a==10||a==12||a==13||a==32
theorem mP(b:Nat)(a:List Nat):iH (b::a)=gP (b/16)::gP (b%16)::iH a:=by simp[iH]
theorem mW(a b:List Nat):iH (a++b)=iH a++iH b:=by simp[iH]
theorem jw(a:List Nat):(iH a).length=2*a.length:=by
 induction a with
 |nil=>rfl
 |cons b a ih=>rw[mP];simp[ih];omega
theorem mQ(a:Nat)(b:a<16):iQ (gP a)=some a:=by
 have:∀a:Fin 16,iQ (gP a.val)=some a.val:=by decide
 exact this ⟨a,b⟩
theorem nJ(a:Nat)(b:a<16):sU (gP a)=false:=by
 have:∀a:Fin 16,sU (gP a.val)=false:=by decide
 exact this ⟨a,b⟩
theorem nE(a:Nat)(b:a<16):gP a≠62:=by
 have:∀a:Fin 16,gP a.val≠62:=by decide
 exact this ⟨a,b⟩
section
variable{B g s m j:Nat}{d:List Nat}{f:Nat}{w:World}{p:Nat}{u:Value}{n:List Nat}
theorem DH{a b:Int}{c:Bool}(e:a=b):Ending.returned (.tuple #[.int .u8 a,.bool c])=.returned (.tuple #[.int .u8 b,.bool c]):=by rw[e]
theorem Fy(a q:Nat)(w:World)(b:iQ a=some q):Calls Tryz.prog 275 #[.int .u8 a] w λe h=>e=.returned (.tuple #[.int .u8 q,.bool true])/\h=w:=by
 unfold iQ at b;by_cases l:48<=a/\a<=57
 ·rw[aA l]at b;have c:=dy b;clear b;subst c;have i:(48:Int)<=(a:Int):=by omega
  have k:(a:Int)<=57:=by omega
  go_enter Tryz.func275,gq;go_wp2_with (go_at_call 216;refine(xR _ _ _ _).mono ?_;rintro e h ⟨rfl,rfl⟩)
  go_ret2
  exact⟨DH (by omega),rfl⟩
 rw[au l]at b;have r:(decide ((48:Int)<=(a:Int))&&decide ((a:Int)<=57))=false:=by simp;omega
 by_cases o:97<=a/\a<=102
 ·rw[aA o]at b;have c:=dy b;clear b;subst c;have i:(97:Int)<=(a:Int):=by omega
  have k:(a:Int)<=102:=by omega
  go_enter Tryz.func275,gq;go_wp2_with (go_at_call 216;refine(xR _ _ _ _).mono ?_;rintro e h ⟨rfl,rfl⟩)
  go_ret2
  exact⟨DH (by omega),rfl⟩
 rw[au o]at b;have t:(decide ((97:Int)<=(a:Int))&&decide ((a:Int)<=102))=false:=by simp;omega
 by_cases h3:65<=a/\a<=70
 ·rw[aA h3]at b;have c:=dy b;clear b;subst c;have i:(65:Int)<=(a:Int):=by omega
  have k:(a:Int)<=70:=by omega
  go_enter Tryz.func275,gq;go_wp2_with (go_at_call 216;refine(xR _ _ _ _).mono ?_;rintro e h ⟨rfl,rfl⟩)
  go_ret2
  exact⟨DH (by omega),rfl⟩
 ·rw[au h3]at b;cases b
theorem wy(a c:Nat)(w:World)(h:iQ a=some c):Calls Tryz.prog 212 #[.int .u8 a] w λb e=>b=.returned (.int .u8 c)/\e=w:=by have i:Hid (iQ a=some c):=h;clear h;go_enter Tryz.func212,Tryz.ntmps212;go_wp2_with (first | (go_at_call 275;refine(Fy _ _ _ i.o).mono ?_;rintro b e ⟨rfl,rfl⟩) | (go_at_call 163;refine(qL _).mono ?_;rintro b e ⟨rfl,rfl⟩));go_ret;exact⟨rfl,rfl⟩
theorem rW(a b:Nat)(c:a<16)(e:b<16):a*16 ||| b=a*16+b:=by
 have:∀a b:Fin 16,a.val*16 ||| b.val=a.val*16+b.val:=by decide
 exact this ⟨a,c⟩ ⟨b,e⟩
theorem Fz(r:Rd B g s m j d f w p u n)(a b:Nat)(i:a<16)(k:b<16)(v:p+1<d.length)(e:nth d p=gP a)(h:nth d (p+1)=gP b)(t:n.length+1<=f) :
  Calls Tryz.prog 154 #[.pointer (some ⟨g,0,none⟩)] w λc l=>c=.returned (.bool true)/\∃q,Rd B g s m j d f l (p+2) q (n++[16*a+b])/\gD 5 B [g] w l:=by
 have A:lM (nth d p)=false:=by rw[e];exact nJ a i
 have C:lM (nth d (p+1))=false:=by rw[h];exact nJ b k
 have G:Hid (iQ (nth d p)=some a):=by rw[e];exact mQ a i
 have H:Hid (iQ (nth d (p+1))=some b):=by rw[h];exact mQ b k
 have e1:((nth d p:Int)==62)=false:=by rw[e];have:=nE a i;simp;omega
 have e2:((nth d (p+1):Int)==62)=false:=by rw[h];have:=nE b k;simp;omega
 clear e h;go_enter Tryz.func154,gj;go_wp2_with fail;refine(sM r (by omega) A).mono ?_;rintro c I ⟨rfl,D,x⟩;go_wp2_with fail;refine(wy _ _ _ G.o).mono ?_;rintro c l ⟨rfl,rfl⟩;go_wp2_with fail;refine(sM D v C).mono ?_;rintro c J ⟨rfl,E,y⟩;go_wp2_with fail;refine(wy _ _ _ H.o).mono ?_;rintro c l ⟨rfl,rfl⟩;go_wp2_with fail;refine(Gf E (16*a+b) _ ?_ t).mono ?_
 ·have:=u8_or_nat (a*16) b (by omega) (by omega);rw[rW a b i k]at this;simp only[fi,Int.natCast_add]at this ⊢;rw[show((16:Nat):Int)=16 from rfl]at this ⊢;rw[this];omega
 rintro c K ⟨rfl,q,F,z⟩;go_wp2;go_ret;exact⟨rfl,q,F,(x.trans y).trans z⟩
theorem I_(e:Rd B g s m j d f w p u n)(l:p<d.length)(a:nth d p=62) :
  Calls Tryz.prog 154 #[.pointer (some ⟨g,0,none⟩)] w λb c=>b=.returned (.bool false)/\Rd B g s m j d f c (p+1) u n/\gD 5 B [g] w c:=by
 have i:lM (nth d p)=false:=by rw[a];rfl
 have e1:((nth d p:Int)==62)=true:=by rw[a];rfl
 clear a;go_enter Tryz.func154,gj;go_wp2_with fail;refine(sM e (by omega) i).mono ?_;rintro b o ⟨rfl,k,h⟩;go_wp2;go_ret;exact⟨rfl,k,h⟩
theorem Iq(a:List Nat)(I:∀v,v<a.length->nth a v<256)(h:d=iH a++[62])(G:Rd B g s m j d f w 0 u [])(S:a.length<=f) :
  Calls Tryz.prog 113 #[.pointer (some ⟨g,0,none⟩)] w λb D=>b=.returned (.tuple #[])/\∃e,Rd B g s m j d f D d.length e a/\gD 5 B [g] w D:=by
 have H:d.length=2*a.length+1:=by rw[h];simp[jw]
 have J:∀k,k<a.length->nth d (2*k)=gP (nth a k/16)/\nth d (2*k+1)=gP (nth a k%16):=by
  intro k l;have b:a=a.take k++(nth a k::a.drop (k+1)):=by
   have:nth a k=a[k]:=by simp[nth,l]
   rw[this,<-bU l,cI]
  have e2:d=iH (a.take k)++(gP (nth a k/16)::gP (nth a k%16)::(iH (a.drop (k+1))++[62])):=by
   rw[h];conv=>lhs;rw[b]
   rw[mW,mP];simp
  have t:(iH (a.take k)).length=2*k:=by rw[jw,ax];omega
  constructor;·rw[e2];simp[nth,ar,t]
  ·rw[e2];simp[nth,ar,t]
 have K:nth d (2*a.length)=62:=by rw[h];simp[nth,ar,jw]
 clear h;go_enter Tryz.func113,Tryz.ntmps113;go_wp2;go_loopw [3] (λ_ wr=>∃(k:Nat) (e:Value),k<=a.length/\Rd B g s m j d f wr (2*k) e (a.take k)/\gD 5 B [g] w wr) (λ_ wr=>d.length-posOf g wr)
 case atStart=>exact⟨0,u,aE _,G,gD.refl _ _ _ _⟩
 case round =>
  obtain⟨k,e,l,r,x⟩:=hrel;have N:=r.posOf;by_cases i:k<a.length
  ·have Q:=I k i;obtain⟨y,z⟩:=J k i;have R:(a.take k).length=k:=by rw[ax];omega
   have E:=gv y;have F:=gv z;clear y z;go_wp2_with fail;refine(Fz r (nth a k/16) (nth a k%16) (by omega) (by omega) (by omega) E.o F.o (by omega)).mono ?_;rintro b P ⟨rfl,O,c,q⟩;have M:=c.posOf;have e1:a.take k++[16*(nth a k/16)+nth a k%16]=a.take (k+1):=by rw[Nat.div_add_mod,bX i];simp[nth,i]
   rw[e1]at c;clear e1;go_wp2;go_roundw
   case rel=>exact⟨k+1,O,by omega,c,x.trans q⟩
   case measure=>rw[N,M];omega
  ·obtain rfl:k=a.length:=by omega
   go_wp2_with fail;refine(I_ r (by omega) K).mono ?_;rintro b P ⟨rfl,c,q⟩;rw[<-H,dM]at c;go_wp2_with fail;refine(Ba c).mono ?_;rintro b T ⟨rfl,C,L⟩;go_wp2_with fail;refine(eo C).mono ?_;rintro b U ⟨rfl,A,rfl⟩;go_wp2
   go_end0
   exact⟨rfl,e,C.drewN A,((x.trans q).trans L).drewN A⟩
end
end Go.Proofs.YtgkljcmjnphpeaaGreatDoor
namespace Go
section
section
variable{P:Program}{g:Array Oper}{Q:Exit->Act->World->Prop}{m:Region.Mode}{S:Array Bool->World->Prop}
def mR(m:Region.Mode)(g:Array Oper)(a:Array Bool):Prop:=
 ∀c d,g[c]?=some d->a.getD c false=true->∀b∈d.after,Region.binds m b=true->a.getD b.on false=true
theorem mR.set{i:Nat}{a:Array Bool}(k:mR m g a)(n:i∈Region.ready m g a):mR m g (a.setIfInBounds i true):=by
 intro h j f o b d c;by_cases e:i=h
 ·subst e;obtain⟨_,q,p,l⟩:=mem_ready.1 n;obtain rfl:j=q:=dy (f.symm.trans p);exact getD_set_true (l b d c)
 ·exact getD_set_true (k h j f (by rwa [eL false e]at o) b d c)
theorem mR.start(a:Nat):mR m g (Array.replicate a false):=by
 intro d e _ c;have:(Array.replicate a false).getD d false=false:=by rcases bZ d a with b | b<;>simp[b]
 rw[this]at c;cases c
def t_(m:Region.Mode)(g:Array Oper)(b:Nat):Nat->Nat->Bool
 |0,_=>false
 |c+1,d=>match g[d]? with
  |none=>false
  |some e=>e.after.any λa=>Region.binds m a&&(a.on==b||t_ m g b c a.on)
theorem mR.came{c:Array Bool}(j:mR m g c){l:Nat}:∀(d b:Nat),t_ m g l d b=true->c.getD b false=true->c.getD l false=true
 |0,_,a,_=>by cases a
 |d+1,b,a,o=>by
  unfold t_ at a;cases i:g[b]? with
  |none=>rw[i]at a;cases a
  |some n =>
   rw[i]at a;simp only[Array.any_eq_true]at a;obtain⟨k,p,f⟩:=a;simp only[dX,Bool.or_eq_true,beq_iff_eq]at f;have h:=j b n i o n.after[k] (Array.getElem_mem _) f.1;rcases f.2 with e | e;·rw[e]at h;exact h
   ·exact j.came d _ e h
def ry(P:Program)(m:Region.Mode)(g:Array Oper)(Q:Exit->Act->World->Prop)(S:Array Bool->World->Prop):Nat->Array Bool->Act->World->Prop
 |0,a,b,c=>Region.ready m g a=[]/\Q .normal b c
 |f+1,a,b,c=>(Region.ready m g a=[]->Q .normal b c) /\
  ∀i∈Region.ready m g a,wpOp P g Q i (λe d=>S (a.setIfInBounds i true) d/\ry P m g Q S f (a.setIfInBounds i true) e d) b c
theorem Br:∀(a:Nat) (c:Array Bool) (d:Act) (e:World),ry P m g Q S a c d e->wpAny P m g Q a c d e
 |0,_,_,_,b=>b
 |a+1,_,_,_,b=>⟨b.1,λj i=>wpOp_mono (λf k h=>Br a _ f k h.2) (b.2 j i)⟩
def ub(m:Region.Mode)(g:Array Oper)(S:Array Bool->World->Prop)(c:Nat)(b:World):Prop:=∃a,mR m g a/\a.getD c true=false/\S a b
theorem Ep{c:Nat}{o:Oper}{B:Value}(z:g[c]?=some o)(L:∀(d:Nat) (M:Oper) r b,g[d]?=some M->M.op≠.select r b)
  (R:∀D f i,Q (.panic D) (f.put o.dst B) i->Q (.panic D) f i) (G:∀a q,S a q->S (a.setIfInBounds c true) q) (T:∀a q,S (a.setIfInBounds c true) q->S a q) :
  ∀(s:Nat) (a:Array Bool) (f:Act) (i:World),mR m g a ->
   (∀d n,g[d]?=some n->d≠c->a.getD d true=false->(∀j∈n.after,Region.binds m j=true->j.on≠c)->o.apart g n=true) ->
   c∈Region.ready m g a->YieldsIf P g (ub m g S c) o B f->S a i ->
   ry P m g Q S s (a.setIfInBounds c true) (f.put o.dst B) i->ry P m g Q S (s+1) a f i:=by
 intro s;induction s with
 |zero =>
  intro a f i v _ e w t p;refine⟨λx=>(by rw[x]at e;cases e),λd u=>?_⟩;by_cases h:d=c;·subst h;exact w.wpOp z ⟨a,v,(mem_ready.1 e).1,t⟩ ⟨G _ _ t,p⟩
  ·have:=ready_mono u h;rw[p.1]at this;cases this
 |succ s ih =>
  intro a f i v H e w t p;refine⟨λx=>(by rw[x]at e;cases e),λd u=>?_⟩;by_cases h:d=c;·subst h;exact w.wpOp z ⟨a,v,(mem_ready.1 e).1,t⟩ ⟨G _ _ t,p⟩
  have O:=p.2 d (ready_mono u h);obtain⟨K,n,A,U⟩:=mem_ready.1 u;have I:=(mem_ready.1 e).1;have ad:∀j∈n.after,Region.binds m j=true->j.on≠c:=by
   intro j W V X;have l:=U j W V;rw[X]at l;rcases bZ c a.size with y | y;·simp[y]at I l;rw[I]at l;cases l
   ·simp[cf y]at l
  have l:=wpOp_putIf A (H d n A h K ad) (λr b=>L c o r b z) (λr b=>L d n r b A) R w O;refine wpOp_mono (λN w' h3=>?_) l;obtain⟨ao,E,C⟩:=h3;rw[Array.setIfInBounds_comm _ _ (eG h)]at E C;have F:=T _ _ E;refine⟨F,ih _ N w' (v.set u) ?_ (ready_mono e (eG h)) ao F C⟩;intro k ok Y Z al ac;refine H k ok Y Z ?_ ac;by_cases J:d=k;·subst J;exact K
  ·rwa [eL true J]at al
theorem zA{b:Nat}{f:Oper}{i:Value}{h:Nat}{a:Array Bool}{d:Act}{c:World}(o:g[b]?=some f)
  (v:Region.noSelect g=true) (t:Region.free m g a b=true) (u:(Region.ready m g a).contains b=true)
  (r:∀j d c,Q (.panic j) (d.put f.dst i) c->Q (.panic j) d c) (n:∀a e,S a e->S (a.setIfInBounds b true) e) (s:∀a e,S (a.setIfInBounds b true) e->S a e)
  (k:mR m g a) (w:YieldsIf P g (ub m g S b) f i d) (l:S a c)
  (q:mR m g (a.setIfInBounds b true)->S (a.setIfInBounds b true) c->ry P m g Q S h (a.setIfInBounds b true) (d.put f.dst i) c):ry P m g Q S (h+1) a d c:=
 have p:b∈Region.ready m g a:=by simpa using u
 Ep o (Region.noSelect_spec v) r n s h a d c k (Region.free_spec o t) p w l (q (k.set p) (n _ _ l))
theorem Er{i:Nat}{e:Oper}{h:Nat}{c:Array Bool}{b:Act}{a:World}(f:Region.ready m g c=[i])(s:g[i]?=some e)(o:mR m g c)
  (n:∀d:Act->World->Prop,Shut (∀b a,S (c.setIfInBounds i true) a->(mR m g (c.setIfInBounds i true)->S (c.setIfInBounds i true) a->ry P m g Q S h (c.setIfInBounds i true) b a)->d b a)->if Region.wanted e (yielded g b.tmps)=true then Oper.wp P e b a d Q else d (b.put e.dst undef) a) :
  ry P m g Q S (h+1) c b a:=by
 refine⟨λj=>(by rw[f]at j;cases j),λt l=>?_⟩;rw[f]at l;obtain rfl:=cc.1 l;have p:=o.set (i:=t) (by rw[f];simp);exact wpOp_step s (λd q=>n d (λb a k r=>q b a ⟨k,r p k⟩))
theorem gB:(∀(e:Act) (j:Tmp) (h:Value),e.put (some j) h={ e with tmps:=e.tmps.setIfInBounds j h })/\(∀(e:Act) (h:Value),e.put none h=e)/\(∀{b:Type} (a:List b) (i:Nat) (d:b),a.toArray.setIfInBounds i d=(a.set i d).toArray)/\(∀{b:Type} (c:b) (a:List b) (d:b),(c::a).set 0 d=d::a)/\(∀{b:Type} (c:b) (a:List b) (i:Nat) (d:b),(c::a).set (i+1) d=c::a.set i d)/\(∀{b:Type} (a:List b) (i:Nat) (f:i<a.toArray.size),a.toArray[i]=a[i]'(by simpa using f))/\(∀{b:Type} (c:b) (a:List b) (i:Nat) (f:i+1<(c::a).length),(c::a)[i+1]=a[i]'(by simpa using f))/\(∀{b:Type} (c:b) (a:List b) (f:0<(c::a).length),(c::a)[0]=c):=
 ⟨λ_ _ _=>rfl,λ_ _=>rfl,λ_ _ _=>by simp,λ_ _ _=>rfl,λ_ _ _ _=>rfl,λ_ _ _=>rfl,λ_ _ _ _=>rfl,λ_ _ _=>rfl⟩
theorem iU:(∀(d:Act) (i:Tmp) (f:Value),d.put (some i) f={ d with tmps:=d.tmps.setIfInBounds i f })/\(∀(d:Act) (f:Value),d.put none f=d)/\(∀{a:Type} (b:List a) (e:Nat) (c:a),b.toArray.setIfInBounds e c=(b.set e c).toArray)/\(∀{a:Type} (h:a) (b:List a) (c:a),(h::b).set 0 c=c::b)/\(∀{a:Type} (h:a) (b:List a) (e:Nat) (c:a),(h::b).set (e+1) c=h::b.set e c):=
 ⟨λ_ _ _=>rfl,λ_ _=>rfl,λ_ _ _=>by simp,λ_ _ _=>rfl,λ_ _ _ _=>rfl⟩
theorem Shut.o{p:Prop}(a:Shut p):p:=a
theorem tk(b:Nat)(h:Value){f:Oper}{j:Nat}{a:Array Bool}{c:Act}{w:World}(k:mR m g a)(v:∀w,ub m g S b w->(execOp c.eval f).run P w=.ok (.value h) w)(n:S a w)
  (d:mR m g (a.setIfInBounds b true)->S (a.setIfInBounds b true) w->ry P m g Q S j (a.setIfInBounds b true) (c.put f.dst h) w)
  (r:g[b]?=some f:=by rfl) (t:Region.noSelect g=true:=by kernel_rfl) (q:Region.free m g a b=true:=by kernel_rfl) (s:(Region.ready m g a).contains b=true:=by kernel_rfl)
  (l:∀i c w,Q (.panic i) (c.put f.dst h) w->Q (.panic i) c w:=by exact λ_ _ _ d=>d)
  (o:∀a e,S a e->S (a.setIfInBounds b true) e:=by first | exact λ_ _ d=>d | exact λ_ _=>(mV.set (by decide)).1 | exact λ_ _=>(tM.set (by decide)).1 | exact λ_ _=>(nj.set (by decide)).1 | exact λ_ _=>(mM.set (by decide)).1 | exact λ_ _=>(SO.set (by decide)).1 | exact λ_ _=>(SB.set (by decide)).1 | exact λ_ _=>sX.s1 (by decide))
  (p:∀a e,S (a.setIfInBounds b true) e->S a e:=by first | exact λ_ _ d=>d | exact λ_ _=>(mV.set (by decide)).2 | exact λ_ _=>(tM.set (by decide)).2 | exact λ_ _=>(nj.set (by decide)).2 | exact λ_ _=>(mM.set (by decide)).2 | exact λ_ _=>(SO.set (by decide)).2 | exact λ_ _=>(SB.set (by decide)).2 | exact λ_ _=>sX.s2 (by decide))
  (u:Region.wanted f (yielded g c.tmps)=true:=by rfl):ry P m g Q S (j+1) a c w:=
 zA r t q s l o p k (Or.inl ⟨u,v⟩) n d
theorem ti(b:Nat)(h:Value){f:Oper}{j:Nat}{a:Array Bool}{c:Act}{w:World}(k:mR m g a)(n:S a w)
  (d:mR m g (a.setIfInBounds b true)->S (a.setIfInBounds b true) w->ry P m g Q S j (a.setIfInBounds b true) (c.put f.dst h) w)
  (r:g[b]?=some f:=by rfl) (t:Region.noSelect g=true:=by kernel_rfl) (q:Region.free m g a b=true:=by kernel_rfl) (s:(Region.ready m g a).contains b=true:=by kernel_rfl)
  (l:∀i c w,Q (.panic i) (c.put f.dst h) w->Q (.panic i) c w:=by exact λ_ _ _ d=>d)
  (o:∀a e,S a e->S (a.setIfInBounds b true) e:=by first | exact λ_ _ d=>d | exact λ_ _=>(mV.set (by decide)).1 | exact λ_ _=>(tM.set (by decide)).1 | exact λ_ _=>(nj.set (by decide)).1 | exact λ_ _=>(mM.set (by decide)).1 | exact λ_ _=>(SO.set (by decide)).1 | exact λ_ _=>(SB.set (by decide)).1 | exact λ_ _=>sX.s1 (by decide))
  (p:∀a e,S (a.setIfInBounds b true) e->S a e:=by first | exact λ_ _ d=>d | exact λ_ _=>(mV.set (by decide)).2 | exact λ_ _=>(tM.set (by decide)).2 | exact λ_ _=>(nj.set (by decide)).2 | exact λ_ _=>(mM.set (by decide)).2 | exact λ_ _=>(SO.set (by decide)).2 | exact λ_ _=>(SB.set (by decide)).2 | exact λ_ _=>sX.s2 (by decide))
  (u:Region.wanted f (yielded g c.tmps)=true:=by rfl)
  (v:∀w,ub m g S b w->(execOp c.eval f).run P w=.ok (.value h) w:=by intro e x;go_simp;try(with_reducible rfl)):ry P m g Q S (j+1) a c w:=
 zA r t q s l o p k (Or.inl ⟨u,v⟩) n d
theorem tu(b:Nat){h:Oper}{j:Nat}{a:Array Bool}{e:Act}{d:World}(k:mR m g a)(n:S a d)
  (c:mR m g (a.setIfInBounds b true)->S (a.setIfInBounds b true) d->ry P m g Q S j (a.setIfInBounds b true) (e.put h.dst undef) d)
  (r:g[b]?=some h:=by rfl) (t:Region.noSelect g=true:=by kernel_rfl) (q:Region.free m g a b=true:=by kernel_rfl) (s:(Region.ready m g a).contains b=true:=by kernel_rfl)
  (l:∀i e d,Q (.panic i) (e.put h.dst undef) d->Q (.panic i) e d:=by exact λ_ _ _ c=>c)
  (o:∀a f,S a f->S (a.setIfInBounds b true) f:=by first | exact λ_ _ c=>c | exact λ_ _=>(mV.set (by decide)).1 | exact λ_ _=>(tM.set (by decide)).1 | exact λ_ _=>(nj.set (by decide)).1 | exact λ_ _=>(mM.set (by decide)).1 | exact λ_ _=>(SO.set (by decide)).1 | exact λ_ _=>(SB.set (by decide)).1 | exact λ_ _=>sX.s1 (by decide))
  (p:∀a f,S (a.setIfInBounds b true) f->S a f:=by first | exact λ_ _ c=>c | exact λ_ _=>(mV.set (by decide)).2 | exact λ_ _=>(tM.set (by decide)).2 | exact λ_ _=>(nj.set (by decide)).2 | exact λ_ _=>(mM.set (by decide)).2 | exact λ_ _=>(SO.set (by decide)).2 | exact λ_ _=>(SB.set (by decide)).2 | exact λ_ _=>sX.s2 (by decide))
  (u:Region.wanted h (yielded g e.tmps)=false:=by rfl):ry P m g Q S (j+1) a e d:=
 zA r t q s l o p k (Or.inr ⟨u,rfl⟩) n c
theorem on(c:Nat){d:Oper}{f:Nat}{a:Array Bool}{b:Act}{w:World}(i:mR m g a)
  (h:∀e:Act->World->Prop,Shut (∀b w,S (a.setIfInBounds c true) w->(mR m g (a.setIfInBounds c true)->S (a.setIfInBounds c true) w->ry P m g Q S f (a.setIfInBounds c true) b w)->e b w)->if Region.wanted d (yielded g b.tmps)=true then Oper.wp P d b w e Q else e (b.put d.dst undef) w)
  (k:Region.ready m g a=[c]:=by kernel_rfl) (j:g[c]?=some d:=by rfl):ry P m g Q S (f+1) a b w:=
 Er k j i h
theorem mI{a:Array Bool}{b:Act}{w:World}(d:Region.ready m g a=[])(c:Q .normal b w):∀e,ry P m g Q S e a b w
 |0=>⟨d,c⟩
 |_+1=>⟨λ_=>c,by rw[d];simp⟩
theorem p7{id:Nat}{a:Act}{b:World}(S:Array Bool->World->Prop)(d:P.follows .mixedOrders=true)
  (c:mR .any g (Array.replicate g.size false)->ry P .any g Q S g.size (Array.replicate g.size false) a b.drew):(Code.region id g true).wp P Q a b:=
 wp_region_any d (Br _ _ _ _ (c (mR.start _)))
end
end
section
open Go.RowKit
theorem zh(b:Nat)(j:TypeId)(h:Nat × Nat):∀(e:List Value) (c:Nat) (g:World) (d:Array Value),g.heap[b]?=some (.cells d j h) ->
  ∃f:Array Value,(g.setCells b c e).heap[b]?=some (.cells f j h)/\f.size=d.size/\∀a,f[a]?=if c<=a/\a<c+e.length/\a<d.size then e[a-c]? else d[a]?
 | [],c,g,d,i=>⟨d,i,rfl,λa=>by rw[au (by simp;omega)]⟩
 |k::e,c,g,d,i=>by
  obtain⟨f,o,p,h3⟩:=zh b j h e (c+1) (g.setCell ⟨b,c,none⟩ k) (d.setIfInBounds c k) (lq k i);refine⟨f,o,by rw[p];simp,λa=>?_⟩;rw[h3 a,fM];by_cases l:c+1<=a/\a<c+1+e.length/\a<d.size;·rw[aA l,aA (by simp;omega),show a-c=(a-(c+1))+1 by omega,d9]
  ·rw[au l];by_cases m:c=a
   ·subst m;by_cases n:c<d.size;·rw[aA (by simp;omega)];simp[n]
    ·rw[au (by omega)];simp[n]
   ·rw[au (by simp;omega),cJ m]
theorem z9{e:World}{b:Nat}{d:TypeId}{c:Nat × Nat}{a:Array Value}{vs:List Value}(g:e.heap[b]?=some (.cells a d c))(m:a.size=vs.length):(e.setCells b 0 vs).heap[b]?=some (.cells vs.toArray d c):=by
 obtain⟨n,h,i,h3⟩:=zh b d c vs 0 e a g;rw[h];congr 2;apply Array.ext (by simp[i,m]);intro f k l;have:=h3 f;rw[aA ⟨by omega,by omega,by omega⟩,Nat.sub_zero]at this;have j:f<vs.length:=by simpa using l
 rw[aW k,ai j]at this;simpa using this
theorem xz(b:Nat){k:Nat}(e:k≠b):∀(c:List Value) (a:Nat) (d:World),(d.setCells b a c).heap[k]?=d.heap[k]?
 | [],_,_=>rfl
 |v::c,a,d=>by show((d.setCell ⟨b,a,none⟩ v).setCells b (a+1) c).heap[k]?=_;rw[xz b e c (a+1),jL _ e]
theorem vW(b a:Nat)(h:a<=b):∀(f:List Value) (e:Nat) (c g:World),Below a c g->Below a c (g.setCells b e f)
 | [],_,_,_,d=>d
 |v::f,e,c,g,d=>vW b a h f (e+1) c _ (d.setCell h v)
theorem Cq(b:Nat):∀(c:List Value) (a:Nat) (d:World),(d.setCells b a c).heap.size=d.heap.size
 | [],_,_=>rfl
 |e::c,a,d=>by show((d.setCell ⟨b,a,none⟩ e).setCells b (a+1) c).heap.size=_;rw[Cq b c (a+1)];simp
end
end Go
