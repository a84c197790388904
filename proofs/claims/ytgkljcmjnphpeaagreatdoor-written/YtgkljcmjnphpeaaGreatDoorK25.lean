import Derived.Stop.BytesEq
import Derived.Test.YtgkljcmjnphpeaaGreatDoorK24
set_option linter.unusedVariables false
set_option linter.unusedSimpArgs false
set_option maxHeartbeats 2000000
set_option maxRecDepth 100000
namespace Go.Proofs.YtgkljcmjnphpeaaGreatDoor
open Go.RowKit
theorem Gv(a:World):(sizeOf 5).run Tryz.prog a=.ok 1 a:=by kernel_rfl
theorem re(d e f g h i j k:Nat)(p:d<256)(q:e<256)(r:f<256)(h3:g<256)(s:h<256)(t:i<256)(u:j<256)(v:k<256)(n:World) :
  (Op.equalIn 10000 153 (.agg #[.int .u8 (d:Int),.int .u8 (e:Int),.int .u8 (f:Int),.int .u8 (g:Int)]) (.agg #[.int .u8 (h:Int),.int .u8 (i:Int),.int .u8 (j:Int),.int .u8 (k:Int)])).run Tryz.prog n=.ok (decide ([d,e,f,g]=[h,i,j,k])) n:=by
 have c:=run_equalIn_bytes (P:= Tryz.prog) n 9998 153 5 4 Tryz.underlying153 dH Gv [UInt8.ofNat d,UInt8.ofNat e,UInt8.ofNat f,UInt8.ofNat g] [UInt8.ofNat h,UInt8.ofNat i,UInt8.ofNat j,UInt8.ofNat k] rfl rfl;have a:∀b:Nat,b<256->(UInt8.ofNat b).toNat=b:=λb o=>by simp[ew o]
 have m:∀l b:Nat,l<256->b<256->(UInt8.ofNat l=UInt8.ofNat b↔l=b):=λl b x o=>⟨λc=>by rw[<-a l x,<-a b o,c],λc=>by rw[c]⟩;have w:([UInt8.ofNat d,UInt8.ofNat e,UInt8.ofNat f,UInt8.ofNat g]==[UInt8.ofNat h,UInt8.ofNat i,UInt8.ofNat j,UInt8.ofNat k])=decide ([d,e,f,g]=[h,i,j,k]):=by rw[aZ,beq_iff_eq,du];simp only[List.cons.injEq,and_true,m d h p s,m e i q t,m f j r u,m g k h3 v]
 rw[w]at c;simp only[bJ,dR,Extern.Stop.cell,a _ p,a _ q,a _ r,a _ h3,a _ s,a _ t,a _ u,a _ v]at c;rw[show(9998+2:Nat)=10000 from rfl]at c;exact c
section
variable{B br n m l cap:Nat}{d:List Nat}{most:Nat}{j:List Value}{w:World}{p s left window:Nat}{q:Value}{out:List Nat}
structure SA(most:Nat)(r:List Bool)(out D:List Nat)(r':List Bool):Prop where
 h0:0<D.length
 h1:D.length<=65535
 h2:∀i,i<D.length->nth D i<256
 h3:r.drop (r.length%8)=gw 16 D.length++(gw 16 (65535-D.length)++(gJ D++r'))
 h4:r'.length%8=0
 h5:out.length+D.length<=most
def lC(window most:Nat)(r:List Bool)(out:List Nat)(r':List Bool)(c:List Nat):Prop:=
 ∀b:List Bool->List Nat->List Bool->List Nat->Prop,
  (∀r r' out c,iy ij window most r out (.ok (r',c))->b (true::(gw 2 1++r)) out r' c) ->
  (∀r r' out a,SA most r out a r'->b (true::(gw 2 0++r)) out r' (out++a)) ->
  (∀r r' f out e a,SA most r out a r'->b r' (out++a) f e->b (false::(gw 2 0++r)) out f e)->b r out r' c
section
variable{window most:Nat}{r r' f:List Bool}{out e d:List Nat}
theorem lC.lastFixed(a:iy ij window most r out (.ok (r',e))):lC window most (true::(gw 2 1++r)) out r' e:=λ_ b _ _=>b _ _ _ _ a
theorem lC.lastStored(a:List Nat)(c:0<a.length)(g:a.length<=65535)(h:∀b,b<a.length->nth a b<256)(h3:r.drop (r.length%8)=gw 16 a.length++(gw 16 (65535-a.length)++(gJ a++r')))(i:r'.length%8=0)(o:out.length+a.length<=most) :
  lC window most (true::(gw 2 0++r)) out r' (out++a):=λ_ _ k _=>k _ _ _ _ ⟨c,g,h,h3,i,o⟩
theorem lC.moreStored(a:List Nat)(k:0<a.length)(o:a.length<=65535)(t:∀g,g<a.length->nth a g<256)(h3:r.drop (r.length%8)=gw 16 a.length++(gw 16 (65535-a.length)++(gJ a++r')))(u:r'.length%8=0)(v:out.length+a.length<=most)
  (x:lC window most r' (out++a) f d):lC window most (false::(gw 2 0++r)) out f d:=λh i b c=>c _ _ _ _ _ _ ⟨k,o,t,h3,u,v⟩ (x h i b c)
def BH(window most:Nat)(b:List Bool)(out:List Nat)(f:List Bool)(d:List Nat):Prop:=
 (∃r,b=true::(gw 2 1++r)/\iy ij window most r out (.ok (f,d)))\/(∃r a,b=true::(gw 2 0++r)/\d=out++a/\SA most r out a f) \/
  (∃r r' a,b=false::(gw 2 0++r)/\SA most r out a r'/\lC window most r' (out++a) f d)
theorem lC.parted(h:lC window most r out r' e):BH window most r out r' e :=
 (h (λr out r' e=>lC window most r out r' e/\BH window most r out r' e)
  (λr _ _ _ g=>⟨.lastFixed g,Or.inl ⟨r,rfl,g⟩⟩)
  (λr _ _ b a=>⟨.lastStored b a.h0 a.h1 a.h2 a.h3 a.h4 a.h5,Or.inr (Or.inl ⟨r,b,rfl,rfl,a⟩)⟩)
  (λr r' _ _ _ b a c=>⟨.moreStored b a.h0 a.h1 a.h2 a.h3 a.h4 a.h5 c.1,Or.inr (Or.inr ⟨r,r',b,rfl,a,c.1⟩)⟩)).2
end
theorem sW.kept{w':World}(o:sW w br n j)(k:gD 5 B [br,n] w w'):sW w' br n j:=by obtain⟨h,f,i,g,r,t,u,a,b,c,e⟩:=o.ex;exact⟨h,f,i,g,r,t.kept k (by simp[a,b]),u.kept k (by simp[c,e]),a,b,c,e⟩
theorem Hl(c e t u v x y z A C f g h i k o r D E M N O P Q R S T F G H I J K L:Value)(a:World)(b:Nat):(Instr.build 167 #[(0,.agg #[.pointer (some ⟨b,0,none⟩),.int .u8 0,.int .i64 0]),(2,.agg #[c,e,t,u,v,x,y,z,A,C,f,g,h,i,k,o,r,D,E,M,N,O,P,Q,R,S,T,F,G,H,I,J,K,L])]).run Tryz.prog a=.ok (.agg #[.pointer (some ⟨b,0,none⟩),.int .u8 0,.int .i64 0,.int .i64 0,c,e,t,u,v,x,y,z,A,C,f,g,h,i,k,o,r,D,E,M,N,O,P,Q,R,S,T,F,G,H,I,J,K,L]) a:=by kernel_rfl
theorem tg(a:List Value)(c:World)(b:Nat)(Z:a.length=34):(Instr.build 167 #[(0,.agg #[.pointer (some ⟨b,0,none⟩),.int .u8 0,.int .i64 0]),(2,.agg a.toArray)]).run Tryz.prog c=.ok (.agg (Value.pointer (some ⟨b,0,none⟩)::.int .u8 0::.int .i64 0::.int .i64 0::a).toArray) c:=by
 have e:(a.take 17).length=17:=by rw[ax];omega
 have f:(a.drop 17).length=17:=by rw[aU];omega
 rw[<-cI 17 a];generalize a.take 17=g at e;generalize a.drop 17=h at f;obtain⟨i,k,z,A,C,D,E,F,G,H,o,r,t,u,v,x,y,rfl⟩:=rX g e;obtain⟨I,J,R,S,T,U,V,W,X,Y,K,L,M,N,O,P,Q,rfl⟩:=rX h f;exact Hl i k z A C D E F G H o r t u v x y I J R S T U V W X Y K L M N O P Q c b
theorem Rd.datOut(e:Rd B br m l cap d most w p q out)(o:∀a,a<out.length->nth out a<256):∃c b,q=.slice c out.length b/\nA w w.heap.size c out:=by
 rcases e.own.2 with⟨e1,e2⟩ | ⟨h,b,k,e1,_,i,r⟩;·exact⟨none,0,by rw[e1,e2],λa f=>by omega⟩
 ·refine⟨_,b,e1,λa f=>⟨h,0,rfl,ae i,?_⟩⟩;have g:=e.own;rw[e1]at g;have:=g.cellAt a (by omega);rw[b_,this];simp[nth,f]
theorem Rd.datOut'{a:Option Addr}{h:Nat}(b:Rd B br m l cap d most w p (.slice a out.length h) out):nA w w.heap.size a out:=by
 rcases b.own.2 with⟨e1,e2⟩ | ⟨f,i,k,e1,_,g,o⟩;·intro e c;omega
 ·cases e1;refine λe c=>⟨f,0,rfl,ae g,?_⟩;have:=b.own.cellAt e (by omega);rw[b_,this];simp[nth,c]
theorem J9(b c e:Nat)(a:World):(Instr.arrayAt 153 (.slice (some ⟨b,c,none⟩) 4 e)).run Tryz.prog a=.ok (.pointer (some ⟨b,c,none⟩)) a:=by kernel_rfl
theorem Df{c br n:Nat}{h g:World}(b:Below w.heap.size w h)(k:gD c B [br,n] h g)(r:w.heap.size<=n):gD c B [br] w g :=
 ⟨k.os.trans b.os,k.tape.trans b.tape,k.output.trans b.output,aD b.size k.size,λf o e a i=>k.block f o (by have:=ae a;simp at e ⊢;exact⟨e,by omega⟩) (by rw[b.block f (ae a)];exact a) i⟩
def CA(n br m b:Nat)(c e:Value)(d:List Nat)(p:Nat)(f:Array Bool)(a:World):Prop:=
 a.cell? ⟨n,0,none⟩=some c/\a.cell? ⟨br,2,none⟩=some e/\a.cell? ⟨m,b,none⟩=some (.int .u8 (nth d p:Nat))/\a.cell? ⟨m,b+1,none⟩=some (.int .u8 (nth d (p+1):Nat))/\a.cell? ⟨m,b+2,none⟩=some (.int .u8 (nth d (p+2):Nat))/\a.cell? ⟨m,b+3,none⟩=some (.int .u8 (nth d (p+3):Nat))
theorem Cs{c:Array Bool}{a:Nat}(b:Bi B br n m l cap d most j w p s left window q out)(e:a+4<=d.length):CA n br m (l+a) (.pointer (some ⟨br,0,none⟩)) q d a c w:=by
 refine⟨b.c0,b.rd.c2,b.rd.dat a (by omega),?_,?_,?_⟩;·rw[cL];exact b.rd.dat (a+1) (by omega)
 ·rw[cL];exact b.rd.dat (a+2) (by omega)
 ·rw[cL];exact b.rd.dat (a+3) (by omega)
theorem Rd.ofBelow{g:World}(a:Rd B br m l cap d most w p q out)(b:Below w.heap.size w g):Rd B br m l cap d most g p q out:=by
 have v:=a.sz;have u:=a.hB;refine⟨a.hB,a.hb,?_,?_,?_,a.byt,a.cp,a.lc,a.lm,a.lo,a.lp⟩;·rw[b.block _ (ae a.blk)];exact a.blk
 ·intro f t;rw[b.cell (p:=⟨m,l+f,none⟩) (by show m<_;omega)];exact a.dat f t
 ·obtain⟨o,c⟩:=a.own;refine⟨o,?_⟩;rcases c with c | ⟨k,h,i,e1,e2,e,r⟩;·exact Or.inl c
  ·exact Or.inr ⟨k,h,i,e1,e2,by rw[b.block _ (ae e)];exact e,r⟩
theorem Bi.start{a:World}{F:List Value}(b:Rd B br m l cap d most a 0 q []) :
  Bi B br a.heap.size m l cap d most F (a.alloc (.cells (Value.pointer (some ⟨br,0,none⟩)::.int .u8 0::.int .i64 0::.int .i64 0::F).toArray 167 (0,0))) 0 0 0 0 q []:=
 ⟨b.alloc _,by have:=b.sz;omega,jd _ _,by omega,by omega⟩
theorem sW.start{c:World}{a b:Nat}(i:j9 c a kN)(k:j9 c b kM)(t:Obj)(o:a≠br)(r:b≠br):sW (c.alloc t) br c.heap.size (fC a b):=by obtain⟨g,u,e,e1⟩:=i;obtain⟨h,v,f,e2⟩:=k;exact⟨a,_,b,_,rfl,⟨g,u,l9 _ e,e1⟩,⟨h,v,l9 _ f,e2⟩,o,by have:=ae e;omega,r,by have:=ae f;omega⟩
theorem E3{k r:List Bool}{o e:List Nat}{A:Value}(g:Fl B br n m l cap d most j w k 32768 A o)(z:sW w br n j)(v:lC 32768 most k o r e) :
  (Calls Tryz.prog 161 #[.pointer (some ⟨n,0,none⟩)] w λf b=>f=.returned (.bool false)/\∃h,Fl B br n m l cap d most j b r 32768 h e/\gD 5 B [br,n] w b) \/
  (∃i t,(Calls Tryz.prog 161 #[.pointer (some ⟨n,0,none⟩)] w λf b=>f=.returned (.bool true)/\∃h,Fl B br n m l cap d most j b i 32768 h t/\gD 5 B [br,n] w b)/\i.length<k.length/\lC 32768 most i t r e):=by
 rcases v.parted with⟨u,rfl,y⟩ | ⟨u,c,rfl,rfl,a⟩ | ⟨u,C,c,rfl,a,x⟩;·exact Or.inl (Hh true z g (by omega) y)
 ·exact Or.inl (E6 true c a.h0 a.h1 a.h2 g a.h3 a.h4 a.h5)
 ·refine Or.inr ⟨_,_,E6 false c a.h0 a.h1 a.h2 g a.h3 a.h4 a.h5,?_,x⟩;have:=cq List.length a.h3;rw[aU]at this;simp only[ab,gN,ag]at this ⊢;omega
end
section
variable{w:World}
def qI:List Nat->Nat->Nat
 | [],a=>a
 |b::c,a=>qI c (a*85+(b-33))
def aO(a:Nat):List Nat:=[a/16777216,a/65536%256,a/256%256,a%256]
theorem Mf(a c b:Int)(w:World)(f:c<=a)(g:a<=b):Calls Tryz.prog 277 #[.int .u64 a,.int .u64 c,.int .u64 b] w λd e=>d=.returned (.bool true)/\e=w:=by go_enter Tryz.func277,Tryz.ntmps277;go_wp2;go_ret;exact⟨rfl,rfl⟩
theorem Kl(b c d e f:Nat)(a:World):(Instr.index 184 (.agg #[.int .u8 (b:Nat),.int .u8 (c:Nat),.int .u8 (d:Nat),.int .u8 (e:Nat),.int .u8 (f:Nat)]) (.int .i64 0)).run Tryz.prog a=.ok (.int .u8 (b:Nat)) a:=by kernel_rfl
theorem Km(c b d e f:Nat)(a:World):(Instr.index 184 (.agg #[.int .u8 (c:Nat),.int .u8 (b:Nat),.int .u8 (d:Nat),.int .u8 (e:Nat),.int .u8 (f:Nat)]) (.int .i64 1)).run Tryz.prog a=.ok (.int .u8 (b:Nat)) a:=by kernel_rfl
theorem Kn(c d b e f:Nat)(a:World):(Instr.index 184 (.agg #[.int .u8 (c:Nat),.int .u8 (d:Nat),.int .u8 (b:Nat),.int .u8 (e:Nat),.int .u8 (f:Nat)]) (.int .i64 2)).run Tryz.prog a=.ok (.int .u8 (b:Nat)) a:=by kernel_rfl
theorem Ko(c d e b f:Nat)(a:World):(Instr.index 184 (.agg #[.int .u8 (c:Nat),.int .u8 (d:Nat),.int .u8 (e:Nat),.int .u8 (b:Nat),.int .u8 (f:Nat)]) (.int .i64 3)).run Tryz.prog a=.ok (.int .u8 (b:Nat)) a:=by kernel_rfl
theorem Kp(c d e f b:Nat)(a:World):(Instr.index 184 (.agg #[.int .u8 (c:Nat),.int .u8 (d:Nat),.int .u8 (e:Nat),.int .u8 (f:Nat),.int .u8 (b:Nat)]) (.int .i64 4)).run Tryz.prog a=.ok (.int .u8 (b:Nat)) a:=by kernel_rfl
def pv(a b c d e:Nat):Nat->Nat
 |0=>0
 |1=>a
 |2=>b
 |3=>c
 |4=>d
 |_=>e
theorem BG(b c d e f:Nat)(Q:33<=b/\b<=117)(R:33<=c/\c<=117)(S:33<=d/\d<=117)(h3:33<=e/\e<=117)(T:33<=f/\f<=117)(a:Nat)(B:qI [b,c,d,e,f] 0=a)(V:a<=4294967295)(w:World) :
  Calls Tryz.prog 217 #[.agg #[.int .u8 b,.int .u8 c,.int .u8 d,.int .u8 e,.int .u8 f]] w λs z=>s=.returned (.agg ((aO a).map λn:Nat=>Value.int .u8 (n:Int)).toArray)/\Below w.heap.size w z:=by
 obtain⟨h,e1⟩:∃h,h=b-33:=⟨_,rfl⟩;obtain⟨i,e2⟩:∃i,i=h*85+(c-33):=⟨_,rfl⟩;obtain⟨j,t⟩:∃j,j=i*85+(d-33):=⟨_,rfl⟩;obtain⟨l,u⟩:∃l,l=j*85+(e-33):=⟨_,rfl⟩;have A:a=l*85+(f-33):=by rw[u,t,e2,e1,<-B];show((((0*85+(b-33))*85+(c-33))*85+(d-33))*85+(e-33))*85+(f-33)=_;rw[Nat.zero_mul,b_]
 have I:h<=84:=by omega
 have J:i<=7224:=by omega
 have K:j<=614124:=by omega
 have L:l<=52200624:=by omega
 have m:=gv (And.intro e1 (And.intro e2 (And.intro t (And.intro u A))));clear B e1 e2 t u A;go_enter Tryz.func217,Tryz.ntmps217;go_wp2;generalize x:World.alloc (World.alloc w _) _=r;have C:Below w.heap.size w r:=by rw[<-x];exact(((aj _ _).alloc (af _) _).alloc (by simp) _)
 have D:r.heap[w.heap.size+1]?=some (.cells #[.int .u8 0,.int .u8 0,.int .u8 0,.int .u8 0] 153 (0,0)):=by rw[<-x];have:=jd (w.alloc (.cells #[.int .u8 b,.int .u8 c,.int .u8 d,.int .u8 e,.int .u8 f] 184)) (.cells #[.int .u8 0,.int .u8 0,.int .u8 0,.int .u8 0] 153 (0,0));simpa using this
 have E:=gv C;have g:=gv D;clear x C D;go_loopw [3,7] (λH y wr=>∃k:Nat,k<=5/\y=.int .i64 k/\H=.int .u64 (pv h i j l a k:Nat)/\wr=r) (λ_ y _=>5-(intOf y).toNat)
 case atStart=>exact⟨0,by omega,rfl,rfl,rfl⟩
 case round =>
  obtain⟨k,U,rfl,rfl,rfl⟩:=hrel;obtain rfl | rfl | rfl | rfl | rfl | rfl:k=0\/k=1\/k=2\/k=3\/k=4\/k=5:=by omega
  ·have q:=Kl b c d e f;simp only[pv];go_wp2;go_roundw
   case rel=>refine⟨1,by omega,rfl,?_,trivial⟩;show Value.int .u64 _=Value.int .u64 (h:Nat);congr 1;have:=m.o;omega
   case measure=>simp[intOf]
  ·have q:=Km b c d e f;simp only[pv];go_wp2;go_roundw
   case rel=>refine⟨2,by omega,rfl,?_,trivial⟩;show Value.int .u64 _=Value.int .u64 (i:Nat);congr 1;have:=m.o;omega
   case measure=>simp[intOf]
  ·have q:=Kn b c d e f;simp only[pv];go_wp2;go_roundw
   case rel=>refine⟨3,by omega,rfl,?_,trivial⟩;show Value.int .u64 _=Value.int .u64 (j:Nat);congr 1;have:=m.o;omega
   case measure=>simp[intOf]
  ·have q:=Ko b c d e f;simp only[pv];go_wp2;go_roundw
   case rel=>refine⟨4,by omega,rfl,?_,trivial⟩;show Value.int .u64 _=Value.int .u64 (l:Nat);congr 1;have:=m.o;omega
   case measure=>simp[intOf]
  ·have q:=Kp b c d e f;simp only[pv];go_wp2;go_roundw
   case rel=>refine⟨5,by omega,rfl,?_,trivial⟩;show Value.int .u64 _=Value.int .u64 (a:Nat);congr 1;have:=m.o;omega
   case measure=>simp[intOf]
  ·simp only[pv];obtain⟨W,X,Y,Z⟩:=CK g.o;have M:=ix 0 g.o;have N:=ix 1 g.o;have O:=ix 2 g.o;have P:=ix 3 g.o;have G:Hid (((((wr.setCell ⟨w.heap.size+1,0,none⟩ (.int .u8 (a/16777216:Nat))).setCell ⟨w.heap.size+1,1,none⟩ (.int .u8 (a/65536%256:Nat))).setCell ⟨w.heap.size+1,2,none⟩ (.int .u8 (a/256%256:Nat))).setCell ⟨w.heap.size+1,3,none⟩ (.int .u8 (a%256:Nat))).heap[w.heap.size+1]?=some (.cells ((aO a).map λn:Nat=>Value.int .u8 (n:Int)).toArray 153 (0,0))):=by unfold Hid;exact lq _ (lq _ (lq _ (lq _ g.o)))
   have F:Hid (Below w.heap.size w ((((wr.setCell ⟨w.heap.size+1,0,none⟩ (.int .u8 (a/16777216:Nat))).setCell ⟨w.heap.size+1,1,none⟩ (.int .u8 (a/65536%256:Nat))).setCell ⟨w.heap.size+1,2,none⟩ (.int .u8 (a/256%256:Nat))).setCell ⟨w.heap.size+1,3,none⟩ (.int .u8 (a%256:Nat)))):=
    gv ((((E.o.setCell (p:=⟨w.heap.size+1,0,none⟩) (by simp) _).setCell (p:=⟨w.heap.size+1,1,none⟩) (by simp) _).setCell (p:=⟨w.heap.size+1,2,none⟩) (by simp) _).setCell (p:=⟨w.heap.size+1,3,none⟩) (by simp) _)
   have x0:Hid ((a:Int)/16777216=(a/16777216:Nat)):=gv rfl;go_wp2_with (first | (go_at_call 277;refine(Mf _ _ _ _ (by omega) (by omega)).mono ?_;rintro s z ⟨rfl,rfl⟩) | (go_at_call 163;refine(qL _).mono ?_;rintro s z ⟨rfl,rfl⟩));refine aF (v:=.agg ((aO a).map λn:Nat=>Value.int .u8 (n:Int)).toArray) ?_ rfl ⟨rfl,F.o⟩;exact aJ Tryz.results217 _ _ (w.heap.size+1) 153 _ _ _ rfl G.o Tryz.underlying153 rfl (by kernel_rfl)
end
section
variable{B z A y s:Nat}{d:List Nat}{m:Nat}{w:World}{p:Nat}{F:Value}{r:List Nat}
def bV(a:List Nat):List Value:=a.map λb:Nat=>Value.int .u8 (b:Int)
def rJ(a:List Nat):Nat->Nat->List Nat
 |0,_=>a
 |b+1,k=>rJ (a.set k 117) b (k+1)
theorem Fr(b c e f g a:Nat)(h:2<=a)(i:a<=4):rJ [b,c,e,f,g] (5-a) a=[b,c,if a<=2 then 117 else e,if a<=3 then 117 else f,117]:=by
 obtain rfl | rfl | rfl:a=2\/a=3\/a=4:=by omega
 ·rfl
 ·rfl
 ·rfl
theorem wk(a:List Nat)(k b:Nat):((bV a).toArray.setIfInBounds k (.int .u8 (b:Int)))=(bV (a.set k b)).toArray:=by unfold bV;rw[List.map_set];simp
theorem Kv(b:Nat)(a:World):(Instr.sliceAt 153 (.pointer (some ⟨b,0,none⟩)) none (some (.int .i64 1)) none).run Tryz.prog a=.ok (.slice (some ⟨b,0,none⟩) 1 4) a:=by kernel_rfl
theorem Kw(b:Nat)(a:World):(Instr.sliceAt 153 (.pointer (some ⟨b,0,none⟩)) none (some (.int .i64 2)) none).run Tryz.prog a=.ok (.slice (some ⟨b,0,none⟩) 2 4) a:=by kernel_rfl
theorem Kx(b:Nat)(a:World):(Instr.sliceAt 153 (.pointer (some ⟨b,0,none⟩)) none (some (.int .i64 3)) none).run Tryz.prog a=.ok (.slice (some ⟨b,0,none⟩) 3 4) a:=by kernel_rfl
theorem rs(b a:Nat)(e:2<=a)(f:a<=4)(c:World):(Instr.sliceAt 153 (.pointer (some ⟨b,0,none⟩)) none (some (.int .i64 ((a:Int)-1))) none).run Tryz.prog c=.ok (.slice (some ⟨b,0,none⟩) (a-1) 4) c:=by
 obtain rfl | rfl | rfl:a=2\/a=3\/a=4:=by omega
 ·exact Kv b c
 ·exact Kw b c
 ·exact Kx b c
theorem Dw(N:Rd B z A y s d m w p F r)(c e f g l a:Nat)(W:2<=a)(X:a<=4)(O:33<=c/\c<=117)(P:33<=e/\e<=117)(Q:33<=(if a<=2 then 117 else f)/\(if a<=2 then 117 else f)<=117)(h3:33<=(if a<=3 then 117 else g)/\(if a<=3 then 117 else g)<=117)
  (b:Nat) (R:qI [c,e,if a<=2 then 117 else f,if a<=3 then 117 else g,117] 0=b) (hm:b<=4294967295) (v:r.length+(a-1)<=m) :
  Calls Tryz.prog 215 #[.pointer (some ⟨z,0,none⟩),.agg (bV [c,e,f,g,l]).toArray,.int .i64 a] w λj u=>j=.returned (.tuple #[])/\∃I,Rd B z A y s d m u p I (r++(aO b).take (a-1))/\gD 5 B [z] w u:=by
 have K:=gv (Fr c e f g l a W X);have J:Hid (∀t:World,Calls Tryz.prog 217 #[.agg (bV [c,e,if a<=2 then 117 else f,if a<=3 then 117 else g,117]).toArray] t λj u=>j=.returned (.agg #[.int .u8 (b/16777216:Nat),.int .u8 (b/65536%256:Nat),.int .u8 (b/256%256:Nat),.int .u8 (b%256:Nat)])/\Below t.heap.size t u):=λt=>BG c e _ _ 117 O P Q h3 (by omega) b R hm t;clear O P Q h3 R;generalize G:[c,e,if a<=2 then 117 else f,if a<=3 then 117 else g,117]=C at *;have a0:C.length=5:=by rw[<-G];rfl
 have HR:=gv G;have S:(w.alloc (.cells (bV [c,e,f,g,l]).toArray 184)).heap[w.heap.size]?=some (.cells (bV [c,e,f,g,l]).toArray 184 (0,0)):=jd _ _;have h5:[c,e,f,g,l].length=5:=rfl;generalize [c,e,f,g,l]=al at *;clear G;have a3:((a:Int)==0)=false:=by simp;omega
 have a2:(1:Int)<a:=by omega
 go_enter Tryz.func215,Tryz.ntmps215;go_wp2_with (go_at_call 163;refine(qL _).mono ?_;rintro j u ⟨rfl,rfl⟩);go_loopw [6] (λi wr=>∃(k:Nat) (h:List Nat),a<=k/\k<=5/\i=.int .i64 k/\h.length=5/\Hid (rJ h (5-k) k=C)/\wr.heap[w.heap.size]?=some (.cells (bV h).toArray 184 (0,0))/\Below w.heap.size w wr) (λi _=>5-(intOf i).toNat)
 case atStart=>exact⟨a,al,af _,by omega,rfl,h5,K,S,(aj _ _).alloc (af _) _⟩
 clear S K
 case round =>
  obtain⟨k,h,k1,Z,rfl,E,x,n,bl⟩:=hrel;by_cases hk:k<5
  ·obtain⟨ac,hx⟩:∃ac,wr.cell? ⟨w.heap.size,k,none⟩=some ac:=by rw[cb n];exact⟨_,aW (by simp[bV,E];omega)⟩
   have fx:wr.frozen? ⟨w.heap.size,k,none⟩=false:=nP n;have a1:(k:Int)<5:=by omega
   have ao:Hid ((wr.setCell ⟨w.heap.size,k,none⟩ (.int .u8 117)).heap[w.heap.size]?=some (.cells (bV (h.set k 117)).toArray 184 (0,0))):=by unfold Hid;rw[lq _ n];exact cq (λad=>some (Obj.cells ad 184 (0,0))) (wk h k 117)
   have o:=gv bl;clear n bl;go_wp2;go_roundw
   case rel=>refine⟨k+1,h.set k 117,by omega,by omega,by go_num,by rw[eF];exact E,?_,ao.o,o.o.setCell (af _) _⟩;have:=x.o;rw[show 5-k=(5-(k+1))+1 by omega,rJ]at this;exact this
   case measure=>simp[intOf];omega
  ·obtain rfl:k=5:=by omega
   obtain rfl:h=C:=x.o;have T:Hid (wr.rangeAt w.heap.size 0 (bV h)):=by intro a5 a7 hj;rw[cb n,b_];simpa using hj
   have V:Hid ((Tryz.prog.info? 184).map (·.size)=some (bV h).length):=by unfold Hid bV;rw[av,E];kernel_rfl
   have o:=gv bl;have Y:=bl.size;clear n bl x;go_wp2_with (refine dW rfl 184 (.tmp 4) rfl w.heap.size 0 rfl _ _ T.o dE rfl V.o ?_);refine(J.o _).mono ?_;rintro j w1 ⟨rfl,D⟩;have M:=gv ((N.ofBelow (o.o.trans (D.mono Y))));have q:=gv (o.o.trans (D.mono Y));clear N o D J T V;have a4:=rs w1.heap.size a W X;have H:((aO b).take (a-1)).length=a-1:=by rw[ax];show min (a-1) 4=_;omega
   have L:=gv (zZ (M.o.alloc (.cells #[.int .u8 (b/16777216:Nat),.int .u8 (b/65536%256:Nat),.int .u8 (b/256%256:Nat),.int .u8 (b%256:Nat)] 153)) ((aO b).take (a-1)) ⟨w1.heap.size,0,none⟩ 4 (by rw[H];exact v) (by have:=M.o.sz;simp;omega) (by
    intro i U;rw[H]at U;rw[aa,cb (jd _ _)];have j:nth ((aO b).take (a-1)) i=nth (aO b) i:=by simp[nth,cR,U]
    rw[j];have h4:i<4:=by omega
    match i,h4 with
    |0,_=>rfl
    |1,_=>rfl
    |2,_=>rfl
    |3,_=>rfl))
   rw[H]at L;go_wp2_with fail;refine L.o.mono ?_;rintro j w2 ⟨rfl,I,r2,Z⟩;go_wp2
   go_end0
   exact⟨rfl,I,r2,((gD.refl _ _ _ _).trans ⟨q.o.os,q.o.tape,q.o.output,q.o.size,λi a6 _ v _=>by rw[q.o.block i (ae v)];exact v⟩ |>.alloc _).trans Z⟩
theorem gD.ofBelow'{f B:Nat}{e:List Nat}{a b:World}(k:Below a.heap.size a b):gD f B e a b:=
 ⟨k.os,k.tape,k.output,k.size,λg h _ c _=>by rw[k.block g (ae c)];exact c⟩
theorem gD.setNew{e B:Nat}{c:List Nat}{b w:World}(a:gD e B c b w){q:Addr}(l:b.heap.size<=q.block)(j:Value):gD e B c b (w.setCell q j):=
 ⟨a.os,a.tape,a.output,by have:=a.size;simpa[World.setCell]using this,λk i h f g=>by have:=ae f;rw[dB _ _ _ _ (by omega)];exact a.block k i h f g⟩
theorem Rd.other{b c i:Nat}{e:Array Value}{g:Nat × Nat}(a:Rd B z A y s d m w p F r)(k:w.heap[b]?=some (.cells e c g))(n:c ≠ 5)(h:b≠z)(j:b≠A)(v:Value):Rd B z A y s d m (w.setCell ⟨b,i,none⟩ v) p F r:=
 ⟨a.hB,a.hb,by rw[jL _ (λf=>h f.symm)];exact a.blk,λo l=>by rw[cn _ j];exact a.dat o l,aR a.own (own_ne a.own k n) _,a.byt,a.cp,a.lc,a.lm,a.lo,a.lp⟩
theorem z7{a:World}{b e:Nat}{c:List Nat}{f:Nat × Nat}(g:a.heap[b]?=some (.cells (bV c).toArray e f)):Hid (a.rangeAt b 0 (bV c)):=by intro i j h;rw[cb g,b_];simpa using h
theorem zT(a:Nat)(b:33<=a)(c:a<=126):lM a=false:=by unfold lM;simp;omega
def sZ(b c e f a:Nat):Nat:=qI [b,c,if a<=2 then 117 else e,if a<=3 then 117 else f,117] 0
theorem JR(h:Rd B z A y s d m w p F r)(b:List Nat)(C:b.length=5)(a:Nat)(H:2<=a)(I:a<=4)(e:∀l,l<a->33<=nth b l/\nth b l<=117)(c:Nat)(i:sZ (nth b 0) (nth b 1) (nth b 2) (nth b 3) a=c)(j:c<=4294967295)(k:r.length+(a-1)<=m) :
  Calls Tryz.prog 215 #[.pointer (some ⟨z,0,none⟩),.agg (bV (gS b a)).toArray,.int .i64 a] w λv u=>v=.returned (.tuple #[])/\∃E,Rd B z A y s d m u p E (r++(aO c).take (a-1))/\gD 5 B [z] w u:=by
 match b,C with
 | [f,g,t,x,G],_ =>
  have n:=e 0 (by omega);have o:=e 1 (by omega);obtain rfl | rfl | rfl:a=2\/a=3\/a=4:=by omega
  ·exact Dw h f g 0 0 0 2 (by omega) (by omega) n o (by simp) (by simp) c i j k
  ·have q:=e 2 (by omega);exact Dw h f g t 0 0 3 (by omega) (by omega) n o q (by simp) c i j k
  ·have q:=e 2 (by omega);have D:=e 3 (by omega);exact Dw h f g t x 0 4 (by omega) (by omega) n o q D c i j k
theorem EM(v:Rd B z A y s d m w p F r)(a:List Nat)(D:a.length=5)(b:Nat)(hn:2<=b)(a8:b<=4)(hp:p+b+1<d.length)(hd:∀e,e<b->nth d (p+e)=nth a e)(G:∀e,e<b->33<=nth a e/\nth a e<=117)
  (ac:nth d (p+b)=126) (ad:nth d (p+b+1)=62) (u:Nat) (Y:sZ (nth a 0) (nth a 1) (nth a 2) (nth a 3) b=u) (hm:u<=4294967295) (ho:r.length+(b-1)<=m) :
  Calls Tryz.prog 157 #[.pointer (some ⟨z,0,none⟩)] w λc f=>c=.returned (.bool false)/\∃O,Rd B z A y s d m f (p+b+2) O (r++(aO u).take (b-1))/\gD 5 B [z] w f:=by
 have R:=gv hd;have HG:=gv G;have S:=gv ac;have a1:=gv ad;have a3:Hid (∀(C:World) (I:Nat),Rd B z A y s d m C I F r->Calls Tryz.prog 215 #[.pointer (some ⟨z,0,none⟩),.agg (bV (gS a b)).toArray,.int .i64 b] C λc f=>c=.returned (.tuple #[])/\∃O,Rd B z A y s d m f I O (r++(aO u).take (b-1))/\gD 5 B [z] C f):=λC I hq=>JR hq a D b hn a8 G u Y hm ho;have bc:=ae v.blk;have bf:=v.cp;have bd:=v.lc;have L:(w.alloc (.cells (bV (gS a 0)).toArray 184 (0,0))).heap[w.heap.size]?=some (.cells (bV (gS a 0)).toArray 184 (0,0)):=jd _ _;have K:(bV (gS a 0)).toArray=#[.int .u8 0,.int .u8 0,.int .u8 0,.int .u8 0,.int .u8 0]:=by rw[xy,D];rfl
 rw[K]at L;have Q:=gv L;have P:=gv K;have U:=gv (v.alloc (.cells #[.int .u8 0,.int .u8 0,.int .u8 0,.int .u8 0,.int .u8 0] 184 (0,0)));clear hd G ac ad Y hm L K v;go_enter ff,eN;go_wp2;go_loopw [7] (λe wr=>∃k:Nat,k<=b/\e=.int .i64 k/\wr.heap[w.heap.size]?=some (.cells (bV (gS a k)).toArray 184 (0,0))/\Rd B z A y s d m wr (p+k) F r/\gD 5 B [z] w wr) (λe _=>5-(intOf e).toNat)
 case atStart=>exact⟨0,by omega,rfl,by rw[P.o];exact Q.o,U.o,(gD.refl _ _ _ _).alloc _⟩
 clear Q P U
 case round =>
  obtain⟨k,hk,rfl,E,l,H⟩:=hrel;have bi:(({ data:=#[126,62] }:ByteArray)[0]'(by decide)).toNat=126:=rfl;have bm:(({ data:=#[126,62] }:ByteArray)[1]'(by decide)).toNat=62:=rfl;have bb:=l.hB;have ba:=l.hb;by_cases M:k<b
  ·have G:=HG.o k M;have g:=gv (sM l (by omega) (by rw[R.o k M];exact zT _ (by omega) (by omega)));rw[R.o k M]at g;have V:=gv (xx a k (by omega));have a7:(gS a k).length=5:=by rw[sP,D]
   generalize nth a k=j at *;have e1:((j:Int)==126)=false:=by simp;omega
   have e2:((j:Int)==122)=false:=by simp;omega
   have q:=gv E;have t:=gv H;have a6:k<5:=by omega
   clear E H l;go_wp2_with fail;refine g.o.mono ?_;rintro c n ⟨rfl,x,i⟩;have h:=i.block w.heap.size _ (by simp;omega) q.o (Or.inr (by intro W X c;simp at c));obtain⟨al,hx⟩:∃al,n.cell? ⟨w.heap.size,k,none⟩=some al:=by rw[cb h];exact⟨_,aW (by simp[bV,a7];omega)⟩
   have fx:n.frozen? ⟨w.heap.size,k,none⟩=false:=nP h;have a0:Hid ((n.setCell ⟨w.heap.size,k,none⟩ (.int .u8 (j:Nat))).heap[w.heap.size]?=some (.cells (bV (gS a (k+1))).toArray 184 (0,0))):=by unfold Hid;rw[lq _ h,V.o];exact cq (λao=>some (Obj.cells ao 184 (0,0))) (wk (gS a k) k j)
   have J:=gv (x.other (i:=k) h (by decide) (by omega) (by omega) (.int .u8 (j:Nat)));have a2:=gv (gD.setNew (t.o.trans i) (q:=⟨w.heap.size,k,none⟩) (af _) (.int .u8 (j:Nat)));clear x i h q t g V;go_wp2_with (first | (go_at_call 216;refine(zD _ _ _ _ (by omega) (by omega)).mono ?_;rintro c f ⟨rfl,rfl⟩) | (go_at_call 163;refine(qL _).mono ?_;rintro c f ⟨rfl,rfl⟩));go_roundw
   case rel=>exact⟨k+1,by omega,by go_num,a0.o,J.o,a2.o⟩
   case measure=>simp[intOf];omega
  ·obtain rfl:k=b:=by omega
   have g:=gv (sM l (by omega) (by rw[S.o];rfl));rw[S.o]at g;have a6:(k:Int)<5:=by omega
   have q:=gv E;have t:=gv H;clear E H l;go_wp2_with fail;refine g.o.mono ?_;rintro c n ⟨rfl,x,i⟩;have h:=gv (i.block w.heap.size _ (by simp;omega) q.o (Or.inr (by intro W X c;simp at c)));have K1:=gv (t.o.trans i);have T:=gv (tR (w:=n.drew) (x.drewN 1) (by omega));rw[show p+k+1=p+k+1 from rfl,a1.o]at T;clear x i q t g;go_wp2_with fail;go_region_with (first | (go_at_call 214;refine T.o.mono ?_;rintro c w2 ⟨rfl,r2,N⟩) | (go_at_call 163;refine(qL _).mono ?_;rintro c f ⟨rfl,rfl⟩));all_goals (
    have J:=gv r2;have Z:=N.block w.heap.size _ (by simp;omega) (show n.drew.heap[w.heap.size]?=_ from h.o) (Or.inr (by intro W X c;simp at c));have K2:=gv ((K1.o.drew).trans N);have a4:=z7 Z;have a5:Hid ((Tryz.prog.info? 184).map (·.size)=some (bV (gS a k)).length):=by unfold Hid bV;rw[av,sP,D];kernel_rfl
    clear r2 N Z;go_wp2_with (refine dW rfl 184 (.tmp 3) rfl w.heap.size 0 rfl _ _ a4.o dE rfl a5.o ?_);refine(a3.o _ _ J.o).mono ?_;rintro c w3 ⟨rfl,a9,r3,k3⟩;go_wp2;go_ret;exact⟨rfl,a9,r3,K2.o.trans k3⟩)
end
section
variable{B:Nat}{w:World}
theorem FB(a:Nat)(b:a<16)(c:a<({ data:=#[48,49,50,51,52,53,54,55,56,57,97,98,99,100,101,102] }:ByteArray).size):(({ data:=#[48,49,50,51,52,53,54,55,56,57,97,98,99,100,101,102] }:ByteArray)[a]'c).toNat=gP a:=by
 match a,b with
 |0,_=>rfl
 |1,_=>rfl
 |2,_=>rfl
 |3,_=>rfl
 |4,_=>rfl
 |5,_=>rfl
 |6,_=>rfl
 |7,_=>rfl
 |8,_=>rfl
 |9,_=>rfl
 |10,_=>rfl
 |11,_=>rfl
 |12,_=>rfl
 |13,_=>rfl
 |14,_=>rfl
 |15,_=>rfl
 |a+16,b=>omega
theorem FC{w:World}{f b:Nat}{d g:Int}(h:d=f)(i:g=b):∀c e,([f,b].map λd:Nat=>Value.int .u8 (d:Int))[c]?=some e->(w.alloc (.cells #[.int .u8 d,.int .u8 g] 5)).drew.cell? ((⟨w.heap.size,0,none⟩:Addr).add c)=some e:=by
 subst h i;intro c e a;match c,a with
 |0,a=>show(w.alloc _).cell? ⟨w.heap.size,0+0,none⟩=_;rw[World.cell?_alloc_new];exact a
 |1,a=>show(w.alloc _).cell? ⟨w.heap.size,0+1,none⟩=_;rw[World.cell?_alloc_new];exact a
 |c+2,a=>simp at a
theorem GW(g:Value)(c:List Nat)(f:w.ownsRow B 5 1 g c.length (c.map λa:Nat=>.int .u8 (a:Int)))(C:B<=w.heap.size)(D:c.length<=1000000000)(b:Nat)(e:b<256) :
  Calls Tryz.prog 143 #[g,.int .u8 b] w λn j=>∃d,n=.returned d/\j.ownsRow B 5 1 d (c.length+2) ((c.map λa:Nat=>.int .u8 (a:Int))++([gP (b/16),gP (b%16)].map λa:Nat=>.int .u8 (a:Int)))/\gD 5 B [] w j:=by
 obtain⟨u,p,r,s,t⟩:=bu Tryz.infoByte;have v:0<=(b:Int)/16:=by omega
 have x:(b:Int)/16<16:=by omega
 have y:bits .and .u8 (b:Int) 15=((b%16:Nat):Int):=by have:=u8_and_nat b 15 e (by omega);rw[nat_mask4]at this;exact this
 have z:(b:Int)%16<16:=by omega
 have A:0<=(b:Int)%16:=by omega
 have e1:((b:Int)/16).toNat=b/16:=by omega
 have e2:((b:Int)%16).toNat=b%16:=by omega
 have k:=gv e1;have l:=gv e2;clear e1 e2;go_enter Tryz.func143,Tryz.ntmps143;go_wp2_with fail;go_region_law (refine Ab rfl (.tmp 5) (.tmp 12) 23 rfl B 5 u (.int .u8 0) 1 1 aq p r s t rfl (by decide) g c.length _ rfl (fg (f.alloc _)) ⟨w.heap.size,0,none⟩ 2 2 ([gP (b/16),gP (b%16)].map λa:Nat=>.int .u8 (a:Int)) rfl (by simp) ?hnews ?hone ?h63 ?hby ?hb ?_;(case hnews=>refine FC ?_ ?_<;>simp only[k.o,l.o]<;>exact cq _ (FB _ (by omega) _));(case hone=>intro E i;simp at i;rcases i with rfl | rfl<;>rfl);(case h63=>unfold maxLen;omega);(case hby=>omega);(case hb=>simp;omega);intro d F q h _);all_goals (have m:=(((gD.refl 5 B [] w).alloc _).drew).grown h (nR (fg (f.alloc _))))
 all_goals (clear f h)
 all_goals go_wp2
 all_goals go_ret
 all_goals exact⟨d,rfl,q,m⟩
theorem IK(ao:Option Addr)(cap:Nat)(a:List Nat)(A:B<=w.heap.size)(F:nA w B ao a)(R:a.length<=200000)(C:∀b,b<a.length->nth a b<256) :
  Calls Tryz.prog 101 #[.slice ao a.length cap] w λn x=>∃c,n=.returned c/\x.ownsRow B 5 1 c (2*a.length+1) ((iH a++[62]).map λl:Nat=>.int .u8 (l:Int))/\gD 5 B [] w x:=by
 obtain⟨v,p,s,t,u⟩:=bu Tryz.infoByte;go_enter Tryz.func101,Tryz.ntmps101;go_wp2_with (at_make;refine wpList_make_own _ rfl _ _ 23 rfl B 5 v (.int .u8 0) 1 aq p s t .i64 .i64 _ (2*a.length+1) rfl rfl (by omega) (by rw[u];omega) (by unfold maxLen;omega) A ?_;intro T q i);have m:=(gD.refl 5 B [] w).grown i (λO z=>by cases z);have N:=i.size;clear i;go_loopw [3,13] (λL b wr=>∃k:Nat,k<=a.length/\b=.int .i64 k/\wr.ownsRow B 5 1 L (iH (a.take k)).length ((iH (a.take k)).map λl:Nat=>.int .u8 (l:Int))/\gD 5 B [] w wr) (λ_ b _=>a.length-(intOf b).toNat)
 case atStart=>exact⟨0,aE _,rfl,q,m⟩
 clear m N q
 case round =>
  obtain⟨k,Q,rfl,f,h⟩:=hrel;have S:=h.size;have G:(iH (a.take k)).length=2*k:=by rw[jw,ax];omega
  by_cases e:k<a.length
  ·obtain⟨y,J,rfl,D,E⟩:=F k e;have P:wr.cell? ⟨y,J+k,none⟩=some (.int .u8 (nth a k:Nat)):=h.cell (by simp) D E;have H:=C k e;go_wp2_with fail;refine(GW _ _ f (by omega) (by omega) (nth a k) H).mono ?_;rintro n M ⟨c,rfl,g,j⟩;have e1:iH (a.take (k+1))=iH (a.take k)++[gP (nth a k/16),gP (nth a k%16)]:=by rw[bX e,mW];simp[iH,nth,e]
   rw[<-aH,<-e1,show(iH (a.take k)).length+2=(iH (a.take (k+1))).length by rw[e1];simp]at g;clear e1;go_wp2;go_roundw
   case rel=>exact⟨k+1,by omega,by go_num,g,h.trans j⟩
   case measure=>simp[intOf];omega
  ·obtain rfl:k=a.length:=by omega
   rw[dM]at f G;go_wp2_with (at_builtin;refine aK _ rfl (.tmp 21) (.tmp 22) 23 rfl B 5 v (.int .u8 0) 1 1 aq p s t u rfl (by decide) _ _ _ rfl (f.alloc _) ⟨wr.heap.size,0,none⟩ 1 1 [.int .u8 62] rfl rfl ?c1 ?c2 ?c3 ?c4 ?c5 ?_)
   case c1=>intro I K d;match I,d with | 0,d=>simp at d;subst d;simp[Addr.add]
   case c2=>intro K r;simp at r;subst r;rfl
   case c3=>unfold maxLen;omega
   case c4=>omega
   case c5=>simp;omega
   intro c M g o _;have j:=(h.alloc _).grown o (nR (f.alloc _));clear o;go_wp2;go_ret;refine⟨c,rfl,?_,j⟩;rw[aH];exact g
end
section
variable{w:World}{B b T:Nat}{a:List Value}{l:Value}{f:List Nat}{g:Nat}{d:List Bool}
theorem JB(c e:Nat):gw (c+1) e=gw c e++[(e/2^c)%2==1]:=by
 induction c generalizing e with
 |zero=>simp[gw]
 |succ c ih=>rw[gw,ih (e/2),gw,cj,cX,<-Nat.pow_succ']
theorem EQ(c e:Nat)(m:c<2^62):bits .and .i64 ((c:Int)/2^e) 1=(((c/2^e)%2==1).toNat:Nat):=by
 have i:((c:Int)/2^e)=((c/2^e:Nat):Int):=by rw[Int.natCast_ediv,Int.natCast_pow];rfl
 have k:c/2^e<=c:=Nat.div_le_self _ _;have j:=Je (c/2^e) 1 (by omega) (by omega);rw[i];refine j.trans ?_;rw[nat_mask1];rcases fG (c/2^e)with h | h<;>rw[h]<;>rfl
theorem zC(q:Wx B b T a w d)(e c:Nat)(m:e<2^62)(z:c<=62)(x:d.length+c<=1099511627776) :
  Calls Tryz.prog 203 #[.pointer (some ⟨b,0,none⟩),.int .i64 e,.int .i64 c] w λi p=>i=.returned (.tuple #[])/\Wx B b T a p (d++gw c e)/\gD 5 B [b] w p:=by
 go_enter Tryz.func203,Tryz.ntmps203;go_wp2;go_loopw [8] (λh wr=>∃k:Nat,k<=c/\h=.int .i64 k/\Wx B b T a wr (d++gw k e)/\gD 5 B [b] w wr) (λh _=>c-(intOf h).toNat)
 case atStart=>exact⟨0,aE _,rfl,by simpa[gw]using q,gD.refl _ _ _ _⟩
 case round =>
  obtain⟨k,v,rfl,j,n⟩:=hrel;by_cases y:k<c
  ·have A:=EQ e k m;have s:(d++gw k e).length<=1099511627776:=by rw[ab,gN];omega
   have t:=gv (JB k e);clear m;go_wp2_with fail;refine(Bx j s _).mono ?_;rintro i C ⟨rfl,r,u⟩;go_wp2;go_roundw
   case rel=>exact⟨k+1,by omega,by go_num,by rw[t.o,<-ak];exact r,n.trans u⟩
   case measure=>simp[intOf];omega
  ·obtain rfl:k=c:=by omega
   go_wp2
   go_end0
   exact⟨rfl,j,n⟩
theorem LH(j:Wx B b T a w d) :
  Calls Tryz.prog 270 #[.pointer (some ⟨b,0,none⟩)] w λi h=>i=.returned (.tuple #[])/\Wx B b T a h (d++List.replicate ((8-d.length%8)%8) false)/\gD 5 B [b] w h:=by
 obtain⟨l,f,g,c,e⟩:=j;have k:=c.c1;have m:=c.fz 1;go_enter Tryz.func270,Tryz.ntmps270;go_wp2
 go_end0
 refine⟨rfl,⟨l,f,0,c.set1 0,?_⟩,(gD.refl _ _ _ _).setCell (by simp) _⟩;rw[e.2.1];exact e.align
theorem AJ(e c:Nat):∀k,k<=c->gX e c=(gX e c).take (c-k)++gX e k:=by
 induction c with
 |zero =>
  intro k i;obtain rfl:k=0:=by omega
  simp[gX]
 |succ c ih =>
  intro k i;by_cases h:k=c+1;·subst h;simp
  ·rw[show c+1-k=(c-k)+1 by omega,gX,List.take_succ_cons,cj,<-ih k (by omega)]
theorem vU(e c:Nat):(gX e c).length=c:=by
 induction c with
 |zero=>rfl
 |succ c ih=>simp[gX,ih]
theorem C0(c e k:Nat)(m:k+1<=e):(gX c e).take (e-k)=(gX c e).take (e-(k+1))++[(c/2^k)%2==1]:=by
 have j:=AJ c e k (by omega);have h:=AJ c e (k+1) m;have i:gX c (k+1)=[(c/2^k)%2==1]++gX c k:=by simp only[gX,cj,cC,Nat.shiftRight_eq_div_pow]
 rw[i,<-ak]at h;exact List.append_cancel_right (j.symm.trans h)
def cV(c:Nat × Nat):Value:=.agg #[.int .i64 (c.1:Nat),.int .i64 (c.2:Nat)]
theorem Cw(q:Wx B b T a w d)(i:Nat × Nat)(j:i.1<2^62)(C:i.2<=62)(z:d.length+i.2<=1099511627776) :
  Calls Tryz.prog 205 #[.pointer (some ⟨b,0,none⟩),cV i] w λe u=>e=.returned (.tuple #[])/\Wx B b T a u (d++gX i.1 i.2)/\gD 5 B [b] w u:=by
 obtain⟨v,h⟩:=i;unfold cV;simp only[]at j C z ⊢;have I:B<=b/\b<w.heap.size:=by obtain⟨_,_,_,t,_⟩:=q;exact⟨t.hb,ae t.blk⟩
 go_enter Tryz.func205,Tryz.ntmps205;go_wp2;go_loopw [4] (λm wr=>∃k:Nat,k<=h/\m=.int .i64 ((k:Int)-1)/\Wx B b T a wr (d++(gX v h).take (h-k))/\gD 5 B [b] (w.alloc (.cells #[.int .i64 v,.int .i64 h] 197)) wr) (λm _=>(intOf m+1).toNat)
 case atStart=>exact⟨h,af _,rfl,by simpa using q.alloc _,gD.refl _ _ _ _⟩
 case round =>
  obtain⟨k,y,rfl,s,n⟩:=hrel;have r:=n.block w.heap.size _ (by simp;omega) (jd _ _) (Or.inr (by intro F G e;simp at e));by_cases J:0<k
  ·obtain⟨c,rfl⟩:∃c,k=c+1:=⟨k-1,by omega⟩;have H:=mb r;have K:=EQ v c j;have A:(d++(gX v h).take (h-(c+1))).length<=1099511627776:=by rw[ab,ax,vU];omega
   have D:=gv (C0 v h c y);have p:((c+1:Nat):Int)-1=c:=by omega
   rw[p];clear j r p;go_wp2_with fail;refine(Bx s A _).mono ?_;rintro e L ⟨rfl,x,E⟩;go_wp2;go_roundw
   case rel=>exact⟨c,by omega,by go_num,by rw[D.o,<-ak];exact x,n.trans E⟩
   case measure=>simp[intOf]
  ·obtain rfl:k=0:=by omega
   go_wp2
   go_end0
   refine⟨rfl,?_,((gD.refl _ _ _ _).alloc _).trans n⟩
   rwa [Nat.sub_zero,aY (by rw[vU];omega)]at s
end
end Go.Proofs.YtgkljcmjnphpeaaGreatDoor
