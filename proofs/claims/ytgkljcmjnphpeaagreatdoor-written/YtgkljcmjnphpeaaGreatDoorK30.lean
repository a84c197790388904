import Derived.Test.YtgkljcmjnphpeaaGreatDoorK29
import Derived.Deep.CutRange
import Derived.Test.YtgkljcmjnphpeaaGreatDoorRows
import Derived.ProofKit
import Derived.LaidMore
import Derived.OpenShut
import Derived.Stop.LaidErr
import Derived.Lib.LaidTab
import Derived.Shelf.Vars
import Derived.Test.YtgkljcmjnphpeaaGreatDoorCards
import Derived.SevenTiedAt
set_option linter.unusedVariables false
set_option linter.unusedSimpArgs false
set_option maxHeartbeats 8000000
set_option maxRecDepth 100000
namespace Go.Proofs.YtgkljcmjnphpeaaGreatDoor
open Go.RowKit
section
variable{w a c:World}
def Cy(w:World)(g:Nat)(h:Option Addr)(e:List Int):Prop:=∀d,d<e.length->∃b f,h=some ⟨b,f,none⟩/\b<g/\w.cell? ⟨b,f+d,none⟩=some (.int .i64 (e.getD d 0))
end
section
open Go.ChangeShapes Go.WideShapes Go.ChangeAt Go.RowKit
theorem Tryz.laidOutE:laidOutB Tryz.prog=true:=by kernel_rfl
theorem Tryz.ownE:ownKnob Tryz.prog.godebug=none:=by kernel_rfl
theorem Tryz.cellsB : Tryz.prog.cellsOf 5=1:=by kernel_rfl
theorem Tryz.cellsN : Tryz.prog.cellsOf 3=1:=by kernel_rfl
theorem Tryz.bytesN : Tryz.prog.bytesOf 3=8:=by kernel_rfl
theorem Tryz.cellsU : Tryz.prog.cellsOf 234=1:=by kernel_rfl
theorem Tryz.gPowT:(Tryz.prog.globals[0]?).map (·.type)=some 275:=by kernel_rfl
theorem Tryz.cellsP : Tryz.prog.cellsOf 275=20:=by kernel_rfl
theorem Tryz.gSyn : Tryz.prog.globalNamed "strconv.ErrSyntax" = some 5:=by kernel_rfl
theorem Tryz.gRng : Tryz.prog.globalNamed "strconv.ErrRange" = some 6:=by kernel_rfl
theorem Tryz.gSynT:(Tryz.prog.globals[5]?).map (·.type)=some 230:=by kernel_rfl
theorem Tryz.gRngT:(Tryz.prog.globals[6]?).map (·.type)=some 230:=by kernel_rfl
theorem Tryz.cellsES : Tryz.prog.cellsOf 324=1:=by kernel_rfl
theorem Tryz.cellsS : Tryz.prog.cellsOf 9=1:=by kernel_rfl
theorem se : "*" ++ "errors.errorString" = "*errors.errorString" :=by decide
theorem Tryz.rowES(a:TypeId)(b : Tryz.prog.typeName? 3 a=some "*errors.errorString"):a = 322:=
 typeName_ptr_named (nm:= "errors.errorString") (by rw[se];kernel_rfl) (by kernel_rfl) (by decide) a (by rw[se];exact b)
theorem Jz{a:World}(b:a.ShapedOpen Tryz.prog):∃c,a.cell? ⟨2,0,none⟩=some (.int .i64 c):=
 cell_of_shapedOpen_int b (t:= 3) (zero:=#[.int .i64 0]) (of_decide_eq_true (by kernel_rfl)) (by kernel_rfl) rfl (by kernel_rfl) (by kernel_rfl) f9
theorem IQ{a:World}{l m c i f:DataW Unit}(n:laidMet Tryz.prog [("math/bits.deBruijn32tab",l),("math/bits.deBruijn64tab",m),("internal/strconv.uint64pow10",Rows.laid_internal_strconv_uint64pow10),("unicode/utf8.acceptRanges",c),("strconv.ErrRange",Rows.laid_strconv_ErrRange),("strconv.ErrSyntax",Rows.laid_strconv_ErrSyntax),("folio/filters.lengthOrder",i),("unicode/utf8.first",f)] a)(o:a.ShapedOpen Tryz.prog):lD a.heap.size a:=by
 have b:laidMet Tryz.prog (("internal/strconv.uint64pow10",Lib.tabData .u64 Lib.pow10Tab)::[("unicode/utf8.acceptRanges",c),("strconv.ErrRange",Rows.laid_strconv_ErrRange),("strconv.ErrSyntax",Rows.laid_strconv_ErrSyntax),("folio/filters.lengthOrder",i),("unicode/utf8.first",f)]) a:=n.tail.tail;have g:=Lib.tabIs_of_head Tryz.gPow Tryz.gPowT Tryz.underlying275 Tryz.underlying234 Tryz.cellsU Tryz.cellsP b;obtain⟨j,t,r,_⟩:=laid_sentinel b.tail.tail Tryz.gRng Tryz.gRngT Tryz.underlying230 Tryz.rowES Tryz.underlying322 Tryz.underlying324 rfl rfl cN Tryz.cellsES Tryz.cellsS;obtain⟨k,u,s,_⟩:=laid_sentinel b.tail.tail.tail Tryz.gSyn Tryz.gSynT Tryz.underlying230 Tryz.rowES Tryz.underlying322 Tryz.underlying324 rfl rfl cN Tryz.cellsES Tryz.cellsS;have d:a.cell? ⟨6,0,none⟩=some (.iface 322 (.pointer (some j))):=by simpa using World.var?_cell Tryz.gRng r 0
 have e:a.cell? ⟨5,0,none⟩=some (.iface 322 (.pointer (some k))):=by simpa using World.var?_cell Tryz.gSyn s 0
 obtain⟨q,h⟩:=Jz o;have p:=g.cell Tryz.gPow 0 (by decide);exact⟨⟨⟨_,e,Or.inr ⟨_,_,rfl⟩⟩,⟨_,d,Or.inr ⟨_,_,rfl⟩⟩,⟨q,h⟩,aB a _ e,aB a _ d,aB a _ h⟩,g,aB a _ p⟩
theorem Jb{q:Type}{enc:TypeId × Value->q}{s:Assume}{C:Checked}{os:Os}{j:FuncId}{d:Func}{e:ChangeSpec}{h v w t:Bool}{X:World->Array Value->Prop}
  (E:∀(a y:World) (c:Array Value),a.heap=y.heap->X a c->X y c) (J:ownKnob C.prog.godebug=none) (M:os.Started) (I:C.prog.inits.idxOf? j=none) (F:C.prog.funcs[j]?=some d)
  (P:∃(a:World) (f:Tape) (b:Input),a.os=os/\(a.forCall f b).Shaped C.prog/\b.vars=[]/\Input.okWide C.prog (a.forCall f b) .any a.heap.size j b/\((e.pre enc C.prog d [] h (a.forCall f b).memory b.args/\X (a.forCall f b).memory b.args)/\sizedMet enc C.prog d (OpenSpec.ofChange e) h (a.forCall f b).memory b.args)/\s.holds C.prog (lone (Frame.enter C.prog j b.args .normal) [] (a.forCall f b)))
  (B:∀(i:World) (A:Nat) (c:Array Value) (m n:List (DataW q)) (o:List MemPlace),(∀(k:Nat) l g,d.params[k]?=some l->c[k]?=some g->Value.okWide C.prog i .any A l g)->DataW.Whole enc C.prog d.params.toList e.vars h i c.toList m n o ->
   (DataW.weightsEach C.prog (d.params.toList++e.plain.varTypes C.prog) (m++n)).all (· <= reachBytes)=true->X i c->i.ShapedOpen C.prog->Calls C.prog j c i λu r=>∃g,u=.returned g/\e.post enc C.prog d h v w t i c g r) :
  ReturnsInHanded s C os j .any (λa c=>(e.pre enc C.prog d [] h a c/\X a c)/\sizedMet enc C.prog d (OpenSpec.ofChange e) h a c) (e.post enc C.prog d h v w t):=by
 apply returnsInHanded_of_calls J M I P;intro a f b _ K _ D pre _;obtain⟨⟨⟨m,n,o,z,_⟩,H⟩,L⟩:=pre;have O:DataW.Whole enc C.prog d.params.toList e.vars h (a.forCall f b) b.args.toList m n o:=DataW.Whole.of_heap (by rfl) z;have N:∀(k:Nat) l g,d.params[k]?=some l->b.args[k]?=some g->Value.okWide C.prog (a.forCall f b) .any a.heap.size l g:=by obtain⟨_,_,_,Q,x,_,_,_,_,G⟩:=D;rw[F]at x;cases x;exact G
 refine(B _ _ _ _ _ _ N O (L.weights z) (E _ _ _ (by rfl) H) K).mono λu r p=>?_;obtain⟨g,rfl,p⟩:=p;exact ChangeSpec.post_blind p
theorem Hr{a:Int}(b:(Lit.int .u8 a).wf=true):0<=a/\a<256:=by simp[Lit.wf,IntKind.min,IntKind.max,IntKind.signed,IntKind.bits]at b;omega
theorem Jf{a:Int}(b:(Lit.int .i64 a).wf=true) : -9223372036854775808<=a/\a<=9223372036854775807:=by simp[Lit.wf,IntKind.min,IntKind.max,IntKind.signed,IntKind.bits]at b;omega
theorem yU{l:Type}{s:TypeId × Value->l}{g:World}{i:Option Addr}{len e:Nat}{m:DataW l}{D:List MemPlace}
  (u:DataW.Trod s Tryz.prog g 0 (λ_=>true) true 23 (.slice i len e) m D) :
  ∃h:List Nat,h.length=len/\nA g g.heap.size i h/\(∀a,a<h.length->nth h a<256)/\len<=e/\(i=none->e=0)/\(e=0\/∃n r,m=.slice n r/\n.length+r.length=e):=by
 obtain⟨G,x⟩:=u;rcases open_ints aq dH Tryz.cellsB x with⟨f,k⟩ | ⟨E,I,F,d,f,_,y,H,B,k,w,A⟩
 ·simp[Value.cells]at f;obtain⟨rfl,rfl,rfl⟩:=f;exact⟨[],rfl,λa c=>by simp at c,λa c=>by simp at c,af _,λ_=>rfl,Or.inl rfl⟩
 ·simp[Value.cells]at f;obtain⟨rfl,rfl,rfl⟩:=f;simp only[Prod.mk.injEq]at k;obtain⟨rfl,rfl⟩:=k;simp only[if_true]at B;have o:∀a,a<d.length->0<=d.getD a 0/\d.getD a 0<256:=λa c=>by
   have z:d.getD a 0∈d:=by rw[bI,ai c];exact df c
   exact Hr (A _ z)
  have q:∀a,a<len->nth ((d.take len).map Int.toNat) a=(d.getD a 0).toNat:=λa c=>by simp[nth,cR,c,ai (show a<d.length by omega)]
  refine⟨(d.take len).map Int.toNat,by simp;omega,?_,?_,y,(λt=>by cases t),Or.inr ⟨_,_,rfl,by simp[lits];omega⟩⟩
  ·intro a c;have j:a<len:=by simp at c;omega
   obtain⟨b,C,rfl,v⟩:=ints_at w (by omega);have p:=v a (by omega);refine⟨b,C,rfl,aB g _ p,?_⟩;rw[p,q a j];have:=o a (by omega);congr 2;omega
  ·intro a c;have j:a<len:=by simp at c;omega
   have:=o a (by omega);rw[q a j];omega
theorem JL{j:Type}{q:TypeId × Value->j}{f:World}{k:Option Addr}{len g:Nat}{l:DataW j}{B:List MemPlace}
  (r:DataW.Trod q Tryz.prog f 0 (λ_=>true) true 52 (.slice k len g) l B) :
  ∃c:List Int,c.length=len/\Cy f f.heap.size k c/\(∀a,a<c.length -> -9223372036854775808<=c.getD a 0/\c.getD a 0<=9223372036854775807)/\len<=g/\(g=0\/∃m p,l=.slice m p/\m.length+p.length=g):=by
 obtain⟨E,v⟩:=r;rcases open_ints dq f9 Tryz.cellsN v with⟨e,i⟩ | ⟨C,G,D,c,e,_,w,F,z,i,u,y⟩
 ·simp[Value.cells]at e;obtain⟨rfl,rfl,rfl⟩:=e;exact⟨[],rfl,λa d=>by simp at d,λa d=>by simp at d,af _,Or.inl rfl⟩
 ·simp[Value.cells]at e;obtain⟨rfl,rfl,rfl⟩:=e;simp only[Prod.mk.injEq]at i;obtain⟨rfl,rfl⟩:=i;simp only[if_true]at z;have s:∀a,a<c.length -> -9223372036854775808<=c.getD a 0/\c.getD a 0<=9223372036854775807:=λa d=>by
   have x:c.getD a 0∈c:=by rw[bI,ai d];exact df d
   exact Jf (y _ x)
  have o:∀a,a<len->(c.take len).getD a 0=c.getD a 0:=λa d=>by simp[cR,d]
  refine⟨c.take len,by simp;omega,?_,?_,w,Or.inr ⟨_,_,rfl,by simp[lits];omega⟩⟩
  ·intro a d;have h:a<len:=by simp at d;omega
   obtain⟨b,A,rfl,t⟩:=ints_at u (by omega);have n:=t a (by omega);refine⟨b,A,rfl,aB f _ n,?_⟩;rw[n,o a h]
  ·intro a d;have h:a<len:=by simp at d;omega
   rw[o a h];exact s a (by omega)
end
section
open Go.ChangeShapes Go.WideShapes Go.ChangeAt Go.ChangeMaps Go.RowKit
theorem L0:joinedFacts Tryz.pinned.checked.prog 8 Tryz.f8 Rows.writtenSpec Rows.writtenRow=true:=by
 unfold joinedFacts;simp only[dX];repeat' (with_reducible apply And.intro)
 all_goals as_aux_lemma=>kernel_rfl
theorem wn : Tryz.pinned.checked.prog.funcNamed Rows.writtenRow.func=some 8:=by kernel_rfl
theorem LO : Tryz.f8.isInstance Tryz.pinned.checked.prog Rows.writtenRow.origin Rows.writtenRow.targs:=of_decide_eq_true (by kernel_rfl)
theorem ww : Tryz.f8.isWrapper Tryz.pinned.checked.prog Rows.writtenRow.wrapper Rows.writtenRow.mainSum:=by unfold Func.isWrapper;first | (rw[aA (by decide +kernel)];kernel_rfl) | (rw[au (by decide +kernel)];exact⟨rfl,rfl⟩)
end
section
open Go
theorem Mb:Rows.writtenRow.wfByText (OpenSpec.ofChange Rows.writtenSpec)=true:=by kernel_rfl
theorem wm : Tryz.pinned.checked.prog.mainIs=some (Rows.writtenCard.stood.harness.1,Rows.writtenCard.stood.harness.2.toList):=by kernel_rfl
theorem LP:true = Tryz.pinned.checked.prog.looks []:=by kernel_rfl
theorem wg:false=Rows.writtenRow.goesBy Tryz.pinned.checked.prog:=by kernel_rfl
end
section
variable{w w':World}{B bm:Nat}
def zN(B:Nat)(w:World)(h:Value):Prop:=∃(e:Option Addr) (c a:Nat),h=.slice e c a/\c<=a/\a<=9223372036854775807/\∀f,f<c->∃(b g:Nat) (d:Int),e=some ⟨b,g,none⟩/\b<B/\w.cell? ⟨b,g+f,none⟩=some (.int .i64 d) /\ -9223372036854775808<=d/\d<=9223372036854775807
structure Mk(B bm:Nat)(w:World):Prop where
 le:B<=bm
 cells:∃(v:Value) (left:Int),w.heap[bm]?=some (.cells #[v,.int .i64 left] 55 (0,0))/\zN B w v
theorem zN.keep{d:Value}(h:zN B w d)(o:∀b,b<B->b<w.heap.size->w'.heap[b]?=w.heap[b]?):zN B w' d:=by obtain⟨e,n,f,g,j,k,h3⟩:=h;refine⟨e,n,f,g,j,k,λi m=>?_⟩;obtain⟨b,r,s,l,a,c,q⟩:=h3 i m;refine⟨b,r,s,l,a,?_,q⟩;have p:=aB w _ c;rw[<-c];unfold World.cell?;simp only[];rw[o _ a p]
theorem Mk.keep(a:Mk B bm w)(d:∀b,b<w.heap.size->w'.heap[b]?=w.heap[b]?):Mk B bm w':=by obtain⟨g,l,c,e⟩:=a.cells;exact⟨a.le,g,l,by rw[d _ (ae c)];exact c,e.keep λb _ f=>d b f⟩
theorem mo(u:Mk B bm w)(d:Nat)(n:0<d)(z:d<=4294967296) :
  Calls Tryz.prog 58 #[.pointer (some ⟨bm,0,none⟩),.int .i64 d] w λf w'=>(∃r:Nat,r<d/\f=.returned (.int .i64 r))/\Mk B bm w'/\gQ bm w w':=by
 obtain⟨m,N,p,a,j,c,g,rfl,v,x,h3⟩:=u;have k:=gv (show w.cell? ⟨bm,0,none⟩=some (.slice j c g)from cb a);have t:=gv (nP (i:=0) a);cases c with
 |zero=>have e:=gv (show Mk B bm w from⟨m,_,p,a,j,0,g,rfl,v,x,h3⟩);clear h3;go_enter Tryz.func58,Tryz.ntmps58;have s:=k.o;go_wp2;go_ret;exact⟨⟨0,n,rfl⟩,e.o,.refl _ _⟩
 |succ c =>
  obtain⟨b,q,E,rfl,K,y,F,G⟩:=h3 0 (by omega);rw[fI]at y;have e:=gv (show ∀h,(c=0\/h=q+1)->Mk B bm (w.setCell ⟨bm,0,none⟩ (.slice (some ⟨b,h,none⟩) c (g-1)))from λh l=>by
   refine⟨m,_,p,lq _ a,_,_,_,rfl,by omega,by omega,λi L=>?_⟩;rcases l with l | rfl;·omega
   ·obtain⟨I,M,H,f,A,C,D⟩:=h3 (i+1) (by omega);cases f;refine⟨b,q+1,H,rfl,A,?_,D⟩;rw[cn _ (by show bm≠b;omega),cL,Nat.add_comm 1 i];exact C)
  clear h3 a;go_enter Tryz.func58,Tryz.ntmps58;have s:=k.o;have J:=t.o;go_wp2_with fail;refine(JX E F G d n z _).mono ?_;rintro f O ⟨r,o,rfl,rfl⟩;go_wp2_with fail
  ·go_ret
   subst_vars
   exact⟨⟨r,o,rfl⟩,e.o _ (Or.inl (by omega)),(gQ.refl _ _).setCell _ _⟩
  ·go_ret;exact⟨⟨r,o,rfl⟩,e.o _ (Or.inr rfl),(gQ.refl _ _).setCell _ _⟩
end
section
variable{w w' wr:World}{B bm:Nat}{nought:Bool}{a:Value}{t:List Nat}
theorem Mk.lt(b:Mk B bm w):bm<w.heap.size:=by obtain⟨_,_,c,_⟩:=b.cells;exact ae c
structure Tx(w:World)(B bm:Nat)(nought:Bool)(wr:World)(a:Value)(t:List Nat):Prop where
 mkr:Mk B bm wr
 own:wr.ownsRow w.heap.size 5 1 a t.length (t.map λx:Nat=>.int .u8 (x:Int))
 only:gQ bm w wr
 lt:bm<w.heap.size
 byt:∀x∈t,x<256/\(nought=false->0<x)
theorem Tx.start(b:Mk B bm w):Tx w B bm nought w (.slice none 0 0) []:=⟨b,bk _ _ _ _,.refl _ _,b.lt,λd c=>by cases c⟩
theorem Tx.step(b:Tx w B bm nought wr a t)(c:Mk B bm w')(k:gQ bm wr w'):Tx w B bm nought w' a t:=⟨c,ul b.own k b.lt,b.only.trans k,b.lt,b.byt⟩
theorem Tx.alloc(d:Tx w B bm nought wr a t)(c:Obj):Tx w B bm nought (wr.alloc c) a t:=
 d.step (d.mkr.keep λb e=>((aj _ _).alloc (af _) c).block b e) (.of_below ((aj _ _).alloc (af _) c))
theorem Tx.app(c:Tx w B bm nought wr a t){j:Value}{d:Nat}(p:d<256/\(nought=false->0<d))(o:w'.ownsRow w.heap.size 5 1 j (t.length+1) ((t.map λd:Nat=>.int .u8 (d:Int))++([d].map λd:Nat=>.int .u8 (d:Int))))(e:wr.grownBy w' a.ownBlock):Tx w B bm nought w' j (t++[d]):=by
 have h:∀k,k<w.heap.size->w'.heap[k]?=wr.heap[k]?:=λk g=>e.block k (by have:=c.only.size;omega) (Ck c.own g);obtain⟨n,r,q,l,m⟩:=c.mkr;have u:=c.lt;refine⟨⟨n,r,q,by rw[h _ c.lt];exact l,m.keep λb i _=>h b (by omega)⟩,?_,?_,c.lt,?_⟩;·rw[ab,aH];exact o
 ·exact⟨e.os.trans c.only.os,e.tape.trans c.only.tape,e.output.trans c.only.output,aD c.only.size e.size,λk g i=>(h k g).trans (c.only.block k g i)⟩
 ·intro s f;rcases bH.1 f with f | f;·exact c.byt s f
  ·rcases cc.1 f with rfl;exact p
def tV:Array Value:=#[.int .i64 97,.int .i64 98,.int .i64 35,.int .i64 40,.int .i64 41,.int .i64 92,.int .i64 47,.int .i64 32,.int .i64 10,.int .i64 13,.int .i64 60,.int .i64 37,.int .i64 255,.int .i64 127,.int .i64 49,.int .i64 0]
theorem Ld{r:Nat}(c:r<16):∃b:Nat,b<256/\tV[r]?=some (.int .i64 (b:Int)):=by
 match r,c with
 |0,_=>exact⟨97,by decide,rfl⟩
 |1,_=>exact⟨98,by decide,rfl⟩
 |2,_=>exact⟨35,by decide,rfl⟩
 |3,_=>exact⟨40,by decide,rfl⟩
 |4,_=>exact⟨41,by decide,rfl⟩
 |5,_=>exact⟨92,by decide,rfl⟩
 |6,_=>exact⟨47,by decide,rfl⟩
 |7,_=>exact⟨32,by decide,rfl⟩
 |8,_=>exact⟨10,by decide,rfl⟩
 |9,_=>exact⟨13,by decide,rfl⟩
 |10,_=>exact⟨60,by decide,rfl⟩
 |11,_=>exact⟨37,by decide,rfl⟩
 |12,_=>exact⟨255,by decide,rfl⟩
 |13,_=>exact⟨127,by decide,rfl⟩
 |14,_=>exact⟨49,by decide,rfl⟩
 |15,_=>exact⟨0,by decide,rfl⟩
 |r+16,c=>omega
theorem Ch(z:Mk B bm w):Calls Tryz.prog 60 #[.pointer (some ⟨bm,0,none⟩),.bool nought] w λe w'=>(∃t:List Nat,t.length<=5/\(∀g∈t,g<256/\(nought=false->0<g))/\e=.returned (.string (gC t)))/\Mk B bm w'/\gQ bm w w':=by
 obtain⟨G,A,D,E,F⟩:=bu Tryz.infoByte;have m:=gv z;clear z;go_enter Tryz.func60,Tryz.ntmps60;go_wp2_with fail;refine(mo m.o 6 (by decide) (by decide)).mono ?_;rintro e X ⟨⟨r,u,rfl⟩,J,H⟩;have y:=gv ((Tx.start (nought:=nought) m.o).step J H);clear J H m;go_wp2;go_loopw [5,6] (λa v wr=>∃(f:Nat) (t:List Nat),v=.int .i64 f/\f+t.length<=5/\Hid (Tx w B bm nought wr a t)) (λ_ v _=>(intOf v).toNat)
 case atStart=>exact⟨r,[],rfl,by simp;omega,y⟩
 clear y
 case round =>
  obtain⟨f,t,rfl,S,c⟩:=hrel;by_cases K:f=0
  ·subst K;have R:=Ac c.o.own;go_wp2;go_ret;exact⟨⟨t,by omega,c.o.byt,rfl⟩,c.o.mkr,c.o.only⟩
  ·have T:(decide ((f:Int)>0))=true:=by simp;omega
   have n:Hid (Calls Tryz.prog 58 #[.pointer (some ⟨bm,0,none⟩),.int .i64 16] (wr.alloc (.cells tV 3)) λe w'=>∃r b:Nat,r<16/\b<256/\e=.returned (.int .i64 r)/\Tx w B bm nought w' u5 t/\w'.cell? ⟨wr.heap.size,r,none⟩=some (.int .i64 (b:Int))):=by have d:=c.o.alloc (.cells tV 3);refine(mo d.mkr 16 (by decide) (by decide)).mono ?_;rintro e w' ⟨⟨r,u,rfl⟩,L,I⟩;obtain⟨b,s,e2⟩:=Ld u;have P:=c.o.mkr.lt;exact⟨r,b,u,s,rfl,d.step L I,by rw[cb ((I.block _ (by simp) (by omega)).trans (jd wr _))];exact e2⟩
   unfold tV at n;clear c;go_wp2_with fail;refine n.o.mono ?_;clear n;rintro e l ⟨W,b,U,s,rfl,d,Q⟩;have c:=gv d;clear d;by_cases h:b=0/\nought=false
   ·obtain⟨rfl,rfl⟩:=h;go_wp2;go_roundw
    case rel=>exact⟨f-1,t,by go_num,by omega,c⟩
    case measure=>simp[intOf];omega
   ·have C:b<256/\(nought=false->0<b):=⟨s,λe=>Nat.pos_of_ne_zero λe2=>h ⟨e2,e⟩⟩;have x:=gv C;have d:=gv (c.o.alloc (.cells #[.int .u8 (b:Nat)] 5));have V:=c.o.only.size;clear C c;rcases dK b with q | q
    ·obtain rfl:nought=true:=by
      cases nought;· exact absurd ⟨q,rfl⟩ h
      ·rfl
     subst q;clear h;go_wp2_with (at_builtin;refine aK _ rfl (.tmp 28) (.tmp 31) 23 rfl w.heap.size 5 G (.int .u8 0) 1 1 aq A D E F rfl (by decide) u5 t.length _ rfl d.o.own ⟨l.heap.size,0,none⟩ 1 1 ([0].map λg:Nat=>.int .u8 (g:Int)) rfl rfl (Bu.one_news 0 l) ?hone ?h63 ?hby ?hbs ?_)
     case hone=>intro M j;simp at j;subst j;rfl
     case h63=>unfold maxLen;omega
     case hby=>omega
     case hbs=>simp;omega
     intro N O k i _;have p:=gv (d.o.app x.o k i);clear k i;go_wp2;go_roundw
     case rel=>exact⟨f-1,t++[0],by go_num,by simp;omega,p⟩
     case measure=>simp[intOf];omega
    ·clear h;go_wp2_with (at_builtin;refine aK _ rfl (.tmp 28) (.tmp 31) 23 rfl w.heap.size 5 G (.int .u8 0) 1 1 aq A D E F rfl (by decide) u5 t.length _ rfl d.o.own ⟨l.heap.size,0,none⟩ 1 1 ([b].map λg:Nat=>.int .u8 (g:Int)) rfl rfl (Bu.one_news b l) ?hone ?h63 ?hby ?hbs ?_)
     case hone=>intro M j;simp at j;subst j;rfl
     case h63=>unfold maxLen;omega
     case hby=>omega
     case hbs=>simp;omega
     intro N O k i _;have p:=gv (d.o.app x.o k i);clear k i;go_wp2;go_roundw
     case rel=>exact⟨f-1,t++[b],by go_num,by simp;omega,p⟩
     case measure=>simp[intOf];omega
end
section
variable{w w' wr:World}{B a:Nat}
theorem Ju(l:Mk B a w)(c:Nat)(y:c<=20):Calls Tryz.prog 91 #[.pointer (some ⟨a,0,none⟩),.int .i64 c] w λj w'=>(∃d:List Nat,d.length<=5/\(∀f∈d,0<f/\f<256)/\j=.returned (.string (gC ((65+c)::d))))/\Mk B a w'/\gQ a w w':=by
 have h:=gv l;clear l;go_enter Tryz.func91,Tryz.ntmps91;go_wp2_with fail;refine(Ch h.o).mono ?_;clear h;rintro j e ⟨⟨d,u,g,rfl⟩,p,n⟩;have r:=gv (show Mk B a (e.alloc (.cells #[.int .u8 ((65+c:Nat):Int)] 5))from p.keep λb g=>((aj _ _).alloc (af _) _).block b g);have q:=gv (show gQ a w (e.alloc (.cells #[.int .u8 ((65+c:Nat):Int)] 5))from n.trans (.of_below ((aj _ _).alloc (af _) _)));clear p n;have s:=Ao (e.alloc (.cells #[.int .u8 ((65+c:Nat):Int)] 5)) e.heap.size [65+c] (jd e _);rw[show([65+c]:List Nat).length=1 from rfl]at s;have C:IntKind.u8.wrap (65+(c:Int))=((65+c:Nat):Int):=by rw[fj];omega
 have t:Hid (gC [65+c]++gC d=gC ((65+c)::d)):=by unfold Hid;rw[DV];rfl
 have A:(gC [65+c]).size=1:=rfl;have z:(gC d).size=d.length:=um _;have i:=gv g;clear g;generalize gC [65+c]=v at *;generalize gC d=x at *;generalize ((65+c:Nat):Int)=k at *;go_wp2;go_ret;exact⟨⟨d,u,λf m=>⟨(i.o f m).2 trivial,(i.o f m).1⟩,by rw[<-t.o];rfl⟩,r.o,q.o⟩
end
section
def lU(f:Nat){k:Nat}(b:gz (VT k)):Prop:=
 b=hJ (VT k) 0 0 0 []\/(∃a:Int,(a=0\/a=1)/\b=hJ (VT k) 1 a 0 [])\/(∃a:Int,-2147483648<=a/\a<=2147483647/\b=hJ (VT k) 2 a 0 []) \/
 (∃(a:Int) (e:Nat),-999999999<=a/\a<=999999999/\e<=5/\(e=0\/a%10≠0)/\b=hJ (VT k) 3 a e [])\/(∃c:List Nat,c.length<=5/\(∀d∈c,0<d/\d<256)/\b=hJ (VT k) 4 0 0 c)\/(∃c:List Nat,c.length<=5/\(∀d∈c,d<256)/\b=hJ (VT k) 5 0 0 c) \/
 ∃a:Nat,0<a/\a<=f/\b=hJ (VT k) 9 (a:Int) 0 []
def lS(e:List (List Nat)):Prop:=∀(b:Nat) (c:List Nat),e[b]?=some c->∃a:List Nat,c=(65+b)::a/\a.length<=5/\∀d∈a,0<d/\d<256
def hH(o:Nat):(c k:Nat)->VT k->Prop
 |_,0,_=>False
 |0,k+1,b=>lU o (show gz (VT k)from b)
 |c+1,k+1,b=>lU o (show gz (VT k)from b)\/(∃a:List (VT k),a.length<=4/\(∀d∈a,hH o c k d)/\b=(⟨6,0,0,[],a,[],[]⟩:gz (VT k))) \/
  ∃(m:List (List Nat)) (a:List (VT k)),m.length=a.length/\a.length<=4/\lS m/\(∀d∈a,hH o c k d)/\b=(⟨7,0,0,[],a,m,[]⟩:gz (VT k))
theorem hH.leaf{d a k:Nat}{b:gz (VT k)}(c:lU d b):hH d a (k+1) b:=by
 cases a with
 |zero=>exact c
 |succ a=>exact Or.inl c
theorem lS.snoc{b:List (List Nat)}{d:List Nat}(g:lS b)(h:d.length<=5)(i:∀f∈d,0<f/\f<256):lS (b++[(65+b.length)::d]):=by
 intro c j a;rcases bZ c b.length with e | e
 ·rw[aI e]at a;exact g c j a
 ·rw[ar e]at a;match k:c-b.length,a with
  |0,a =>
   obtain rfl:c=b.length:=by omega
   simp at a;exact⟨d,a.symm,h,i⟩
  |l+1,a=>simp at a
structure Gr(v:World)(bm f K k:Nat)(w:World)(q:Value)(vs:List Value)(z:List (VT k))(u:Value)(m:List (List Nat)):Prop where
 only:gQ bm v w
 lt:bm<v.heap.size
 le:v.heap.size<f
 rb:w.heap[v.heap.size]?=some (.cells gZ 67 (0,0))
 vb:w.heap[f]?=some (.cells #[.int .i64 (K:Int),.int .i64 0,.int .i64 0,.string { data:=#[] },q,u,.slice none 0 0] 67 (0,0))
 own:w.ownsRow (f+1) 67 7 q vs.length (vs.flatMap cellsOf)
 ownk:w.ownsRow (f+1) 9 1 u m.length (m.map λs=>.string (gC s))
 len:vs.length=z.length
 ch:∀(i:Nat) (x:Value) (y:VT k),vs[i]?=some x->z[i]?=some y->gR (λg=>f+1<=g/\q.ownBlock≠some g/\u.ownBlock≠some g) k w x y
variable{v:World}{bm f K k:Nat}{w w':World}{q u:Value}{vs:List Value}{z:List (VT k)}{m:List (List Nat)}
theorem Gr.step(a:Gr v bm f K k w q vs z u m)(c:gQ bm w w'):Gr v bm f K k w' q vs z u m:=by
 have p:=a.lt;have o:=a.le;have d:∀b,v.heap.size<=b->b<w.heap.size->w'.heap[b]?=w.heap[b]?:=λb g e=>c.block b e (by omega);refine⟨a.only.trans c,a.lt,a.le,?_,?_,ul a.own c (by omega),ul a.ownk c (by omega),a.len,λj l n h i=>?_⟩;·rw[d _ (af _) (ae a.rb)];exact a.rb
 ·rw[d _ (by omega) (ae a.vb)];exact a.vb
 ·exact gR.keep k (a.ch j l n h i) (λb g e=>d b (by omega) e)
theorem Gr.below(a:Gr v bm f K k w q vs z u m)(b:Below w.heap.size w w'):Gr v bm f K k w' q vs z u m:=a.step (.of_below b)
theorem Gr.drew(a:Gr v bm f K k w q vs z u m):Gr v bm f K k w.drew q vs z u m:=a.below (aj _ _).drew
theorem Gr.alloc(b:Gr v bm f K k w q vs z u m)(a:Obj):Gr v bm f K k (w.alloc a) q vs z u m:=b.below ((aj _ _).alloc (af _) a)
theorem Gr.val(b:Gr v bm f K k w q vs z u m):gR (λa=>f+1<=a) (k+1) w (.agg #[.int .i64 (K:Int),.int .i64 0,.int .i64 0,.string { data:=#[] },q,u,.slice none 0 0]) (⟨K,0,0,[],z,m,[]⟩:gz (VT k)):=
 ⟨q,u,.slice none 0 0,vs,rfl,b.len,jr.of b.own (λa c=>(b.own.lt a c).1),λg h i d e=>gR.mono k (b.ch g h i d e) (λa c _=>c.1),jr.of b.ownk (λa c=>(b.ownk.lt a c).1),jr.nil _ _ _ _⟩
theorem Gr.kept(b:Gr v bm f K k w q vs z u m){r v':Value}{j:Nat}(l:∀a,r.ownBlock=some a->f+1<=a)(c:w.grownBy w' r.ownBlock):(∀a,a<w.heap.size->r.ownBlock≠some a->a≠f->(w'.setCell ⟨f,j,none⟩ v').heap[a]?=w.heap[a]?)/\(∀a,a<f->a<w.heap.size->(w'.setCell ⟨f,j,none⟩ v').heap[a]?=w.heap[a]?)/\gQ bm v (w'.setCell ⟨f,j,none⟩ v')/\w'.heap[f]?=w.heap[f]?:=by
 have o:=b.lt;have n:=b.le;have p:=b.only.size;have i:∀a,a<w.heap.size->r.ownBlock≠some a->a≠f->(w'.setCell ⟨f,j,none⟩ v').heap[a]?=w.heap[a]?:=λa g e h3=>by rw[jL _ h3,c.block a g (λd=>e d.symm)]
 have h:∀a,a<f->a<w.heap.size->(w'.setCell ⟨f,j,none⟩ v').heap[a]?=w.heap[a]?:=λa g e=>i a e (λd=>by have:=l a d;omega) (by omega);exact⟨i,h,⟨c.os.trans b.only.os,c.tape.trans b.only.tape,c.output.trans b.only.output,by have:=c.size;simp[World.setCell];omega,λa g e=>(h a (by omega) (by omega)).trans (b.only.block a g e)⟩,c.block _ (ae b.vb) (λd=>by have:=l _ d.symm;omega)⟩
theorem Gr.item(c:Gr v bm f K k w q vs z u m){o:Value}{t:VT k}{S:Nat}(y:∀b,q.ownBlock=some b->b<S)(D:∀b,u.ownBlock=some b->b<S)(N:f+1<=S)(L:gR (λb=>S<=b) k w o t){i:Value}
  (B:w'.ownsRow (f+1) 67 7 i (vs.length+1) (vs.flatMap cellsOf++cellsOf o)) (A:w.grownBy w' q.ownBlock) (C:∀b,i.ownBlock=some b->q.ownBlock=some b\/w.heap.size<=b) :
  Gr v bm f K k (w'.setCell ⟨f,4,none⟩ i) i (vs++[o]) (z++[t]) u m:=by
 obtain⟨I,G,H,J⟩:=c.kept (v':=i) (j:=4) (λb d=>(c.own.lt b d).1) A;have F:=c.le;refine⟨H,c.lt,c.le,by rw[G _ F (ae c.rb)];exact c.rb,?_,?_,?_,by rw[ab,ab,c.len];rfl,?_⟩;·rw[lq _ (J.trans c.vb)];rfl
 ·rw[ab,cx];have:=aR (a:=⟨f,4,none⟩) B (λd=>absurd (B.lt f d).1 (by omega)) i;simpa using this
 ·have:=c.ownk.kept A (by
   cases E:u.ownBlock with
   |none=>exact Or.inl rfl
   |some b=>exact Or.inr (λd=>yY c.own c.ownk (by decide) b d.symm E))
  exact aR this (λd=>absurd (this.lt f d).1 (by omega)) i
 ·intro r s x g h;have M:gR (λb=>f+1<=b/\q.ownBlock≠some b/\u.ownBlock≠some b/\i.ownBlock≠some b) k w s x:=by
   rcases bZ r vs.length with l | l
   ·rw[aI l]at g;rw[aI (by rw[<-c.len];exact l)]at h;refine gR.mono k (c.ch r s x g h) (λb e p=>⟨e.1,e.2.1,e.2.2,λd=>?_⟩);rcases C b d with n | n;·exact e.2.1 n
    ·omega
   ·rw[ar l]at g;rw[ar (by rw[<-c.len];exact l)]at h;rw[<-c.len]at h;obtain⟨rfl,rfl⟩:o=s/\t=x:=by
     match O:r-vs.length,g,h with
     |0,g,h=>exact⟨by simpa using g,by simpa using h⟩
     |j+1,g,h=>simp at g
    refine gR.mono k L (λb e p=>⟨by omega,λd=>?_,λd=>?_,λd=>?_⟩);·have:=y b d;omega
    ·have:=D b d;omega
    ·rcases C b d with n | n;·have:=y b n;omega
     ·omega
  refine gR.mono k (gR.keep k M (λb e p=>I b p e.2.1 (by omega))) (λb e _=>⟨e.1,e.2.2.2,e.2.2.1⟩)
theorem Gr.key(c:Gr v bm f K k w q vs z u m){h:List Nat}{g:Value}
  (o:w'.ownsRow (f+1) 9 1 g (m.length+1) ((m.map λh=>.string (gC h))++[.string (gC h)])) (n:w.grownBy w' u.ownBlock) (C:∀b,g.ownBlock=some b->u.ownBlock=some b\/w.heap.size<=b) :
  Gr v bm f K k (w'.setCell ⟨f,5,none⟩ g) q vs z g (m++[h]):=by
 obtain⟨A,x,y,B⟩:=c.kept (v':=g) (j:=5) (λb e=>(c.ownk.lt b e).1) n;have t:=c.le;refine⟨y,c.lt,c.le,by rw[x _ t (ae c.rb)];exact c.rb,?_,?_,?_,c.len,?_⟩;·rw[lq _ (B.trans c.vb)];rfl
 ·have:=c.own.kept n (by
   cases s:q.ownBlock with
   |none=>exact Or.inl rfl
   |some b=>exact Or.inr (λe=>yY c.own c.ownk (by decide) b s e.symm))
  exact aR this (λe=>absurd (this.lt f e).1 (by omega)) g
 ·rw[ab,aH];have:=aR (a:=⟨f,5,none⟩) o (λe=>absurd (o.lt f e).1 (by omega)) g;simpa using this
 ·intro F p r D E;have G:gR (λb=>f+1<=b/\q.ownBlock≠some b/\u.ownBlock≠some b/\g.ownBlock≠some b) k w p r:=by
   refine gR.mono k (c.ch F p r D E) (λb d l=>⟨d.1,d.2.1,d.2.2,λe=>?_⟩);rcases C b e with i | i;·exact d.2.2 i
   ·omega
  refine gR.mono k (gR.keep k G (λb d l=>A b l d.2.2.1 (by omega))) (λb d _=>⟨d.1,d.2.1,d.2.2.2⟩)
end
end Go.Proofs.YtgkljcmjnphpeaaGreatDoor
namespace Go
section
section
variable{P:Program}(w:World)
theorem pZ{x:Array Oper}{y:List Oper}{g:Oper}{k:Act}{t:Exit->Act->World->Prop}(K:g.guard=none)(z A:Operand)(m:TypeId)
  (O:g.op=.call { callee:=.builtin .append,args:=#[z,A],argTypes:=#[m,m] })
  (l:Nat) (c:TypeId) (d:TypeInfo) (s:Value) (a p:Nat) (V:P.underlying m=some (.slice c)) (L:P.info? c=some d) (X:d.zero=some s)
  (T:d.size=a) (I:d.bytes=p) (Y:s.cells.size=a) (U:0<a)
  (h:Value) (e:Nat) (r:List Value) (S:k.eval z=h) (Q:w.ownsRow l c a h e r)
  (o:Addr) (b u:Nat) (f:List Value) (W:k.eval A=.slice (some o) b u) (M:f.length=b*a) (N:∀v n,f[v]?=some n->w.cell? (o.add v)=some n) (C:∀n∈f,n.oneCell'=true)
  (F:e+b<=maxLen) (J:(e+b)*p<=140737488355328) (H:l<=w.heap.size)
  (B:∀i j,j.ownsRow l c a i (e+b) (r++f)->w.grownBy j h.ownBlock->(∀q,i.ownBlock=some q->h.ownBlock=some q\/w.heap.size<=q)->wpList P x t y (k.put g.dst i) j):wpList P x t (g::y) k w:=by
 refine fh K λZ G=>?_;obtain⟨i,j,R,D,h3,E⟩:=DF (P:=P) (w:=w) l m g.type c d s a p V L X T I Y U h e r Q o b u f M N C F J H;unfold Oper.wp execOp;simp only[O,resolve,invoke,builtin,Sem.run_bind,Sem.run_pure,eH,eR,bJ,dR,S,W,R];exact G _ _ (B i j D h3 E)
theorem xQ{F:Array Oper}{G:List Oper}{h:Oper}{o:Act}{C:Exit->Act->World->Prop}(Q:h.guard=none)(H I:Operand)(i d:TypeId)
  (S:h.op=.call { callee:=.builtin .append,args:=#[H,I],argTypes:=#[i,d] })
  (p:Nat) (e:TypeId) (g:TypeInfo) (u:P.underlying i=some (.slice e)) (v:P.underlying d=some .string) (r:P.info? e=some g) (B:g.zero=some (.int .u8 0))
  (t:g.size=1) (z:g.bytes=1)
  (j:Value) (c:Nat) (l:List Value) (V:o.eval H=j) (m:w.ownsRow p e 1 j c l) (a:ByteArray) (W:o.eval I=.string a)
  (y:c+a.size<=maxLen) (D:c+a.size<=140737488355328) (O:p<=w.heap.size)
  (K:∀k n,n.ownsRow p e 1 k (c+a.size) (l++Lib.strCells a)->w.grownBy n j.ownBlock->(∀b,k.ownBlock=some b->j.ownBlock=some b\/w.heap.size<=b)->wpList P F C G (o.put h.dst k) n):wpList P F C (h::G) o w:=by
 refine fh Q λZ N=>?_;obtain⟨k,n,s,L,h3,_⟩:=Lib.run_append_own_string (P:=P) w p i d h.type e g u v r B t z j c l m a y D O;have M:∀b,k.ownBlock=some b->j.ownBlock=some b\/w.heap.size<=b:=by
  intro b A;have ad:c+a.size<=9223372036854775807:=by simp only[maxLen]at y;omega
  rcases m.2 with⟨rfl,rfl⟩ | ⟨q,x,J,rfl,_,R,_,_,ac,_⟩
  ·have X:l=[]:=cG (by have:=m.1;omega);subst X;obtain⟨v2,w2,f,Y,_⟩:=Lib.run_append_own_string (P:=P) w w.heap.size i d h.type e g u v r B t z (.slice none 0 0) 0 [] (bk _ _ _ _) a y D (af _);rw[s]at f;injection f with e1 e2;subst e1;exact Or.inr (Y.lt b A).1
  ·by_cases U:c+a.size<=x
   ·have f:=Lib.run_append_room_string (P:=P) w i d h.type e g u v r t q c x J R a U (by omega);rw[s]at f;injection f with e1 e2;subst e1;exact Or.inl A
   ·have T:∀E d,l[E]?=some d->w.cell? ((⟨q,0,none⟩:Addr).add E)=some d:=m.cells (g:=q) rfl;have f:=Lib.run_append_grow_string (P:=P) w i d h.type e g (.int .u8 0) u v r B ⟨q,0,none⟩ c x l (by rw[t];exact m.1) T a (by omega) (by omega) (by rw[z];exact eV (by omega) (by omega));rw[s]at f;injection f with e1 e2;subst e1;simp[Value.ownBlock]at A;exact Or.inr (by omega)
 unfold Oper.wp execOp;simp only[S,resolve,invoke,builtin,Sem.run_bind,Sem.run_pure,eH,eR,bJ,dR,V,W,s];exact N _ _ (K k n L h3 M)
end
end
end Go
