import Derived.Laws.CopyOwn
import Derived.Test.YtgkljcmjnphpeaaGreatDoorK41
import Derived.Test.YtgkljcmjnphpeaaGreatDoorK43
set_option linter.unusedVariables false
set_option linter.unusedSimpArgs false
set_option maxHeartbeats 2000000
set_option maxRecDepth 100000
namespace Go.Proofs.YtgkljcmjnphpeaaGreatDoor
open Go.RowKit
section
variable{w:World}{B cap:Nat}{ao:Option Addr}{data:List Nat}
theorem yW(a b c d:Nat)(f:a<256)(g:b<256)(h:c<256)(h3:d<256) :
  bits .or .u32 (bits .or .u32 (bits .or .u32 ((a*16777216:Nat):Int) ((b*65536:Nat):Int)) ((c*256:Nat):Int)) ((d:Nat):Int)=((kB a b c d:Nat):Int):=by
 rw[u32_or_nat _ _ (by omega) (by omega)];have e1:a*16777216 ||| b*65536=a*16777216+b*65536:=by have:=A7 (b*65536) a 24 (by omega);rw[Nat.or_comm,show a*16777216=a*2^24 by omega,this];omega
 rw[e1,u32_or_nat _ _ (by omega) (by omega)];have e2:(a*16777216+b*65536) ||| c*256=a*16777216+b*65536+c*256:=by have:=A7 (c*256) (a*256+b) 16 (by omega);rw[Nat.or_comm,show a*16777216+b*65536=(a*256+b)*2^16 by omega,this];omega
 rw[e2,u32_or_nat _ _ (by omega) (by omega)];have e:(a*16777216+b*65536+c*256) ||| d=a*16777216+b*65536+c*256+d:=by have:=A7 d (a*65536+b*256+c) 8 (by omega);rw[Nat.or_comm,show a*16777216+b*65536+c*256=(a*65536+b*256+c)*2^8 by omega,this];omega
 rw[e];rfl
def pJ(a:Nat):Nat->List Nat
 |0=>[0,0,0,0,0]
 |k+1=>(pJ a k).set (4-k) (33+a/85^k%85)
theorem Ig{a:Nat}(b:a<=4294967295):pJ a 5=i3 a:=by
 have:a/52200625%85=a/52200625:=by omega
 show[33+a/85^4%85,33+a/85^3%85,33+a/85^2%85,33+a/85^1%85,33+a/85^0%85]=i3 a;unfold i3;simp only[show(85:Nat)^4=52200625 from rfl,show(85:Nat)^3=614125 from rfl,show(85:Nat)^2=7225 from rfl,show(85:Nat)^1=85 from rfl,show(85:Nat)^0=1 from rfl,Nat.div_one,this]
theorem Ii(a k:Nat):(pJ a k).length=5:=by
 induction k with
 |zero=>rfl
 |succ k ih=>simp[pJ,ih]
theorem GR(c d e g:Nat)(q:c<256)(r:d<256)(s:e<256)(h3:g<256)(w:World) :
  Calls Tryz.prog 200 #[.agg #[.int .u8 c,.int .u8 d,.int .u8 e,.int .u8 g]] w λY w'=>Y=.returned (.agg (bV (i3 (kB c d e g))).toArray)/\Below w.heap.size w w':=by
 have K:=yW c d e g q r s h3;have M:=vl q r s h3;have U:=gv (Ig M);generalize kB c d e g=a at *;have a1:bits .or .u32 (bits .or .u32 (bits .or .u32 ((c:Int)*16777216) ((d:Int)*65536)) ((e:Int)*256)) (g:Int)=(a:Int):=by rw[show(c:Int)*16777216=((c*16777216:Nat):Int)by omega,show(d:Int)*65536=((d*65536:Nat):Int)by omega,show(e:Int)*256=((e*256:Nat):Int)by omega];exact K
 clear K;go_enter Tryz.func200,Tryz.ntmps200;go_wp2;generalize l:World.alloc (World.alloc (World.alloc w _) _) _=j;have D:Below w.heap.size w j:=by rw[<-l];exact((((aj _ _).alloc (af _) _).alloc (by simp) _).alloc (by simp;omega) _)
 have F:j.heap[w.heap.size+1+1]?=some (.cells #[.int .u8 0,.int .u8 0,.int .u8 0,.int .u8 0,.int .u8 0] 184 (0,0)):=by rw[<-l];have:=jd ((w.alloc (.cells #[.int .u8 c,.int .u8 d,.int .u8 e,.int .u8 g] 153)).alloc (.cells #[.int .u8 0,.int .u8 0,.int .u8 0,.int .u8 0,.int .u8 0] 184 (0,0))) (.cells #[.int .u8 0,.int .u8 0,.int .u8 0,.int .u8 0,.int .u8 0] 184 (0,0));simpa using this
 have E:j.heap[w.heap.size+1+1]?=some (.cells (bV (pJ a 0)).toArray 184 (0,0)):=F;have G:j.heap[w.heap.size+1]?=some (.cells #[.int .u8 0,.int .u8 0,.int .u8 0,.int .u8 0,.int .u8 0] 184 (0,0)):=by rw[<-l];have:=l9 (.cells #[.int .u8 0,.int .u8 0,.int .u8 0,.int .u8 0,.int .u8 0] 184 (0,0)) (jd (w.alloc (.cells #[.int .u8 c,.int .u8 d,.int .u8 e,.int .u8 g] 153)) (.cells #[.int .u8 0,.int .u8 0,.int .u8 0,.int .u8 0,.int .u8 0] 184 (0,0)));simpa using this
 have T:=gv D;have Q:=gv E;have P:=gv G;clear l D E F G a1 q r s h3;go_loopw [3,5] (λa4 b wr=>∃k:Nat,k<=5/\b=.int .i64 (4-(k:Int))/\a4=.int .u32 (a/85^k:Nat)/\wr.heap[w.heap.size+1+1]?=some (.cells (bV (pJ a k)).toArray 184 (0,0))/\wr.heap[w.heap.size+1]?=some (.cells #[.int .u8 0,.int .u8 0,.int .u8 0,.int .u8 0,.int .u8 0] 184 (0,0))/\Below w.heap.size w wr) (λ_ b _=>(intOf b+1).toNat)
 case atStart=>exact⟨0,by omega,rfl,by rw[Nat.pow_zero,Nat.div_one],Q.o,P.o,T.o⟩
 case round =>
  obtain⟨k,hk,rfl,rfl,h,i,bl⟩:=hrel;have n:Hid (∀m,m=33+a/85^k%85->pJ a (k+1)=(pJ a k).set (4-k) m):=λm Z=>by rw[Z];rfl
  have z:Hid (a/85^(k+1)=a/85^k/85):=by unfold Hid;rw[cX,dG]
  have hX:a/85^k<=4294967295:=aD (Nat.div_le_self _ _) M;generalize a/85^k=f at *;have x:=Ii a k;by_cases a5:k<5
  ·obtain⟨b,t⟩:∃b,b=4-k:=⟨_,rfl⟩;have A:(4:Int)-k=(b:Int):=by omega
   rw[A];have H:b<5:=by omega
   obtain⟨N,hx⟩:∃N,wr.cell? ⟨w.heap.size+1+1,b,none⟩=some N:=by rw[cb h];exact⟨_,aW (by simp[bV,x];omega)⟩
   have fx:wr.frozen? ⟨w.heap.size+1+1,b,none⟩=false:=nP h;have V:Hid ((wr.setCell ⟨w.heap.size+1+1,b,none⟩ (.int .u8 (33+(f:Int)%85))).heap[w.heap.size+1+1]?=some (.cells (bV (pJ a (k+1))).toArray 184 (0,0))):=by unfold Hid;rw[show(33+(f:Int)%85)=((33+f%85:Nat):Int)by omega,n.o (33+f%85) rfl,lq _ h,<-t];exact cq (λO=>some (Obj.cells O 184 (0,0))) (wk (pJ a k) b (33+f%85))
   have W:Hid ((wr.setCell ⟨w.heap.size+1+1,b,none⟩ (.int .u8 (33+(f:Int)%85))).heap[w.heap.size+1]?=some (.cells #[.int .u8 0,.int .u8 0,.int .u8 0,.int .u8 0,.int .u8 0] 184 (0,0))):=by unfold Hid;rw[jL _ (by omega)];exact i
   have R:=gv (bl.setCell (p:=⟨w.heap.size+1+1,b,none⟩) (show w.heap.size<=w.heap.size+1+1 by omega) (.int .u8 (33+(f:Int)%85)));have X:=gv t;clear h i bl n x A t;go_wp2;go_roundw
   case rel=>exact⟨k+1,by omega,by have:=X.o;congr 1;omega,by rw[z.o];exact cq (Value.int .u32) (show((f:Int)/85)=((f/85:Nat):Int)by omega),V.o,W.o,R.o⟩
   case measure=>simp[intOf]
  ·obtain rfl:k=5:=by omega
   have J:(4:Int)-((5:Nat):Int) = -1:=by omega
   rw[J];rw[U.o]at h;have u:(bV (i3 a)).length=5:=by unfold bV;rw[av];rfl
   have ad:=z7 h;have H:Hid ((Tryz.prog.info? 184).map (·.size)=some (bV (i3 a)).length):=by unfold Hid;rw[u];kernel_rfl
   have L:(bV (i3 a)).toArray.size=5:=List.size_toArray.trans u;have I:Hid ((Tryz.prog.info? 184).map (·.size)=some (bV (i3 a)).toArray.size):=by unfold Hid;rw[L];kernel_rfl
   have a2:Hid (wr.there (w.heap.size+1) 0 (bV (i3 a)).toArray.size):=by unfold Hid;rw[L];intro a6 hj;refine⟨?_,nP i⟩;rw[cb i,b_,aW (by simpa using hj)];rfl
   have a0:(bV (i3 a)).toArray.all (·.oneCell')=true:=by simp[bV,Value.oneCell']
   have a3:(#[Value.int .u8 0,.int .u8 0,.int .u8 0,.int .u8 0,.int .u8 0]:Array Value).size=5:=rfl;have al:=gv (z9 (vs:=bV (i3 a)) i (a3.trans u.symm));have ac:=gv (vW (w.heap.size+1) w.heap.size (by omega) (bV (i3 a)) 0 _ _ bl);clear h i bl n z hX x J;generalize C:bV (i3 a)=y at *;have S:=gv C;clear C;go_wp2_with (first | (refine dW rfl 184 (.tmp 4) rfl (w.heap.size+1+1) 0 rfl _ _ ad.o dE rfl H.o ?_) | (refine eW rfl 184 (.tmp 2) (.tmp 36) rfl (w.heap.size+1) 0 y.toArray rfl rfl a2.o I.o a0 ?_));refine aF (v:=.agg y.toArray) ?_ rfl ⟨by rw[S.o],ac.o⟩;exact aJ Tryz.results200 _ _ (w.heap.size+1) 184 _ _ _ rfl al.o dE rfl I.o
theorem wJ{B:Nat}{c:TypeId}{k:Nat}{f:Value}{e:Nat}{h:List Value}{w g:World}(m:w.ownsRow B c k f e h)(b:Below w.heap.size w g):g.ownsRow B c k f e h:=by
 obtain⟨n,a⟩:=m;refine⟨n,?_⟩;rcases a with a | ⟨l,i,j,e1,e2,d,o⟩;·exact Or.inl a
 ·exact Or.inr ⟨l,i,j,e1,e2,by rw[b.block _ (ae d)];exact d,o⟩
theorem gD.thenB{e B:Nat}{a:List Nat}{c b d:World}(g:gD e B a c b)(k:Below b.heap.size b d):gD e B a c d:=
 g.trans ⟨k.os,k.tape,k.output,k.size,λh i _ f _=>by rw[k.block h (ae f)];exact f⟩
def mX(a b c d e:Nat):List Nat:=if e=4/\a=0/\b=0/\c=0/\d=0 then[122]else(i3 (kB a b c d)).take (e+1)
theorem Kb(a:World):(Instr.build 153 #[]).run Tryz.prog a=.ok (.agg #[.int .u8 0,.int .u8 0,.int .u8 0,.int .u8 0]) a:=by kernel_rfl
theorem DP(b:Nat)(a:World):(Instr.sliceAt 184 (.pointer (some ⟨b,0,none⟩)) none (some (.int .i64 2)) none).run Tryz.prog a=.ok (.slice (some ⟨b,0,none⟩) 2 5) a:=by kernel_rfl
theorem DQ(b:Nat)(a:World):(Instr.sliceAt 184 (.pointer (some ⟨b,0,none⟩)) none (some (.int .i64 3)) none).run Tryz.prog a=.ok (.slice (some ⟨b,0,none⟩) 3 5) a:=by kernel_rfl
theorem Ky(b:Nat)(a:World):(Instr.sliceAt 184 (.pointer (some ⟨b,0,none⟩)) none (some (.int .i64 4)) none).run Tryz.prog a=.ok (.slice (some ⟨b,0,none⟩) 4 5) a:=by kernel_rfl
theorem Kz(b:Nat)(a:World):(Instr.sliceAt 184 (.pointer (some ⟨b,0,none⟩)) none (some (.int .i64 5)) none).run Tryz.prog a=.ok (.slice (some ⟨b,0,none⟩) 5 5) a:=by kernel_rfl
theorem Gp(b a:Nat)(d:1<=a)(e:a<=4)(c:World):(Instr.sliceAt 184 (.pointer (some ⟨b,0,none⟩)) none (some (.int .i64 ((a:Int)+1))) none).run Tryz.prog c=.ok (.slice (some ⟨b,0,none⟩) (a+1) 5) c:=by
 obtain rfl | rfl | rfl | rfl:a=1\/a=2\/a=3\/a=4:=by omega
 ·exact DP b c
 ·exact DQ b c
 ·exact Ky b c
 ·exact Kz b c
theorem Fk(a b c d:Nat)(h:a<256)(i:b<256)(j:c<256)(h3:d<256)(f:Bool)(k:decide (a=0/\b=0/\c=0/\d=0)=f)(e:World) :
  (Op.equalIn 10000 153 (.agg #[.int .u8 (a:Int),.int .u8 (b:Int),.int .u8 (c:Int),.int .u8 (d:Int)]) (.agg #[.int .u8 0,.int .u8 0,.int .u8 0,.int .u8 0])).run Tryz.prog e=.ok f e:=by
 have:=re a b c d 0 0 0 0 h i j h3 (by omega) (by omega) (by omega) (by omega) e;have g:decide ([a,b,c,d]=[0,0,0,0])=f:=by rw[<-k];simp
 rw[g]at this;exact this
theorem yJ{w:World}:∀b c,([122].map λd:Nat=>Value.int .u8 (d:Int))[b]?=some c->(w.alloc (.cells #[.int .u8 122] 5)).cell? ((⟨w.heap.size,0,none⟩:Addr).add b)=some c:=by
 intro b c a;match b,a with
 |0,a=>rw[aa,World.cell?_alloc_new];exact a
 |b+1,a=>simp at a
theorem GU(a7:Value)(j:List Nat)(ad:w.ownsRow B 5 1 a7 j.length (j.map λm:Nat=>.int .u8 (m:Int)))(hB:B<=w.heap.size)(hx:j.length<=1000000)(f g h i c:Nat)(Z:f<256)(h1:g<256)(h2:h<256)(h3:i<256)(hn:1<=c)(a5:c<=4) :
  Calls Tryz.prog 144 #[a7,.agg #[.int .u8 f,.int .u8 g,.int .u8 h,.int .u8 i],.int .i64 c] w λH w'=>∃r,H=.returned r/\w'.ownsRow B 5 1 r (j++mX f g h i c).length ((j++mX f g h i c).map λm:Nat=>.int .u8 (m:Int))/\gD 5 B [] w w':=by
 obtain⟨i0,hi,al,a1,a2⟩:=bu Tryz.infoByte;obtain⟨E,G,rfl⟩:=i_ ad;have bc:=Kb;have v:=gv ad;clear ad;by_cases x:c=4/\f=0/\g=0/\h=0/\i=0
 ·have T:mX f g h i c=[122]:=by unfold mX;rw[aA x]
  rw[T];obtain⟨rfl,rfl,rfl,rfl,rfl⟩:=x;have a9:∀a4,(Op.equalIn 10000 153 (.agg #[.int .u8 0,.int .u8 0,.int .u8 0,.int .u8 0]) (.agg #[.int .u8 0,.int .u8 0,.int .u8 0,.int .u8 0])).run Tryz.prog a4=.ok true a4:=Fk 0 0 0 0 Z h1 h2 h3 true (by decide);go_enter Tryz.func144,Tryz.ntmps144;go_wp2_with (at_builtin;refine aK _ rfl (.tmp 15) (.tmp 16) 23 rfl B 5 i0 (.int .u8 0) 1 1 aq hi al a1 a2 rfl (by decide) (.slice E j.length G) j.length _ rfl ((v.o.alloc _).alloc _) ⟨w.heap.size+1,0,none⟩ 1 1 ([122].map λm:Nat=>.int .u8 (m:Int)) rfl rfl ?hnews ?hone ?h63 ?hby ?hbs ?_)
  case hnews =>
   have H:w.heap.size+1=(w.alloc (.cells #[.int .u8 0,.int .u8 0,.int .u8 0,.int .u8 0] 153)).heap.size:=by simp
   rw[H];exact yJ
  case hone=>intro U d;simp at d;subst d;rfl
  case h63=>unfold maxLen;omega
  case hby=>omega
  case hbs=>simp;omega
  intro r w2 t q _;have z:=(((gD.refl 5 B [] w).alloc _).alloc _).grown q (nR ((v.o.alloc _).alloc _));clear q;go_wp2;go_ret;refine⟨r,rfl,?_,z⟩;rw[aH,ab];exact t
 ·have T:mX f g h i c=(i3 (kB f g h i)).take (c+1):=by unfold mX;rw[au x]
  rw[T];have S:((i3 (kB f g h i)).take (c+1)).length=c+1:=by rw[ax];show min (c+1) 5=_;omega
  have Q:=gv (GR f g h i Z h1 h2 h3);have R:(i3 (kB f g h i)).length=5:=rfl;generalize i3 (kB f g h i)=b at *;clear T;by_cases a6:c=4
  ·have a9:=Fk f g h i Z h1 h2 h3 false (a_ (λa8=>x ⟨a6,a8⟩));have e4:((c:Int)==4)=true:=by simp;omega
   clear a6 x;go_enter Tryz.func144,Tryz.ntmps144;go_wp2_with fail;refine Q.o _ |>.mono ?_
   rintro H a ⟨rfl,n⟩;have A:=gv (wJ (v.o.alloc (.cells #[.int .u8 (f:Int),.int .u8 (g:Int),.int .u8 (h:Int),.int .u8 (i:Int)] 153)) n);have y:=gv (gD.thenB ((gD.refl 5 B [] w).alloc (.cells #[.int .u8 (f:Int),.int .u8 (g:Int),.int .u8 (h:Int),.int .u8 (i:Int)] 153)) n);have ba:B<=a.heap.size:=by have:=n.size;simp at this;omega
   clear n v Q;have l:(bV b).toArray.all (·.oneCell')=true:=by simp[bV,Value.oneCell']
   have u:(bV b).toArray.size=5:=by simp[bV,R]
   have K:Hid ((Tryz.prog.info? 184).map (·.size)=some (bV b).toArray.size):=by unfold Hid;rw[u];kernel_rfl
   have p:(a.alloc (.cells #[.int .u8 0,.int .u8 0,.int .u8 0,.int .u8 0,.int .u8 0] 184 (0,0))).heap[a.heap.size]?=some (.cells #[.int .u8 0,.int .u8 0,.int .u8 0,.int .u8 0,.int .u8 0] 184 (0,0)):=jd _ _;have M:Hid ((a.alloc (.cells #[.int .u8 0,.int .u8 0,.int .u8 0,.int .u8 0,.int .u8 0] 184 (0,0))).there a.heap.size 0 (bV b).toArray.size):=by unfold Hid;rw[u];intro a3 hj;refine⟨?_,nP p⟩;rw[cb p,b_,aW (by simpa using hj)];rfl
   have J:=gv (z9 (vs:=bV b) p (by simp[bV,R]));have ac:Hid (∀k,k<a.heap.size->((a.alloc (.cells #[.int .u8 0,.int .u8 0,.int .u8 0,.int .u8 0,.int .u8 0] 184 (0,0))).setCells a.heap.size 0 (bV b)).heap[k]?=a.heap[k]?):=λk hk=>by rw[xz _ (by omega)];show(a.heap.push _)[k]?=_;rw[Array.getElem?_push,au (by omega)]
   have L:Hid (((a.alloc (.cells #[.int .u8 0,.int .u8 0,.int .u8 0,.int .u8 0,.int .u8 0] 184 (0,0))).setCells a.heap.size 0 (bV b)).heap.size=a.heap.size+1):=by unfold Hid;rw[Cq];simp
   have s:Hid (Below a.heap.size a ((a.alloc (.cells #[.int .u8 0,.int .u8 0,.int .u8 0,.int .u8 0,.int .u8 0] 184 (0,0))).setCells a.heap.size 0 (bV b))):=gv (vW _ _ (af _) _ _ _ _ ((aj _ _).alloc (af _) _));clear p u;have bb:=Gp a.heap.size c hn a5;have C:Hid (∀e,(a.alloc (.cells #[.int .u8 0,.int .u8 0,.int .u8 0,.int .u8 0,.int .u8 0] 184 (0,0))).setCells a.heap.size 0 (bV b)=e->e.ownsRow B 5 1 (.slice E j.length G) j.length (j.map λm:Nat=>.int .u8 (m:Int))/\e.heap[a.heap.size]?=some (.cells (bV b).toArray 184 (0,0))/\gD 5 B [] w e/\e.heap.size=a.heap.size+1):=by intro e hW;subst hW;exact⟨wJ A.o s.o,J.o,gD.thenB y.o s.o,L.o⟩
   clear J ac L s A y;go_wp2_with (first | (refine eW rfl 184 (.tmp 7) (.tmp 19) rfl a.heap.size 0 (bV b).toArray rfl rfl M.o K.o l ?_;generalize I:World.setCells (a.alloc _) a.heap.size 0 (bV b)=e;obtain⟨O,F,N,P⟩:=C.o e I;have D:=gv O;have V:=gv F;have W:=gv N;have Y:=gv P;clear I O F N P C M K l) | (at_builtin;refine aK _ rfl (.tmp 20) (.tmp 23) 23 rfl B 5 i0 (.int .u8 0) 1 1 aq hi al a1 a2 rfl (by decide) (.slice E j.length G) j.length _ rfl D.o ⟨a.heap.size,0,none⟩ (c+1) 5 (bV (b.take (c+1))) rfl (by unfold bV;rw[av,S,Nat.mul_one]) ?hnews ?hone ?h63 ?hby ?hbs ?_))
   case hnews =>
    intro a3 U d;rw[aa,cb V.o];unfold bV at d ⊢;rw[List.map_take,cR]at d;split at d;·simpa using d
    ·cases d
   case hone=>intro U d;obtain⟨m,_,rfl⟩:=cv.1 d;rfl
   case h63=>unfold maxLen;omega
   case hby=>omega
   case hbs=>have:=Y.o;omega
   intro r w2 t q _;have z:=gv (W.o.grown q (nR D.o));have X:=gv t;clear q t;go_wp2;go_ret;refine⟨r,rfl,?_,z.o⟩;rw[aH,ab,S];exact X.o
  ·have e4:((c:Int)==4)=false:=by simp;omega
   clear x;go_enter Tryz.func144,Tryz.ntmps144;go_wp2_with fail;refine Q.o _ |>.mono ?_
   rintro H a ⟨rfl,n⟩;have A:=gv (wJ (v.o.alloc (.cells #[.int .u8 (f:Int),.int .u8 (g:Int),.int .u8 (h:Int),.int .u8 (i:Int)] 153)) n);have y:=gv (gD.thenB ((gD.refl 5 B [] w).alloc (.cells #[.int .u8 (f:Int),.int .u8 (g:Int),.int .u8 (h:Int),.int .u8 (i:Int)] 153)) n);have ba:B<=a.heap.size:=by have:=n.size;simp at this;omega
   clear n v Q;have l:(bV b).toArray.all (·.oneCell')=true:=by simp[bV,Value.oneCell']
   have u:(bV b).toArray.size=5:=by simp[bV,R]
   have K:Hid ((Tryz.prog.info? 184).map (·.size)=some (bV b).toArray.size):=by unfold Hid;rw[u];kernel_rfl
   have p:(a.alloc (.cells #[.int .u8 0,.int .u8 0,.int .u8 0,.int .u8 0,.int .u8 0] 184 (0,0))).heap[a.heap.size]?=some (.cells #[.int .u8 0,.int .u8 0,.int .u8 0,.int .u8 0,.int .u8 0] 184 (0,0)):=jd _ _;have M:Hid ((a.alloc (.cells #[.int .u8 0,.int .u8 0,.int .u8 0,.int .u8 0,.int .u8 0] 184 (0,0))).there a.heap.size 0 (bV b).toArray.size):=by unfold Hid;rw[u];intro a3 hj;refine⟨?_,nP p⟩;rw[cb p,b_,aW (by simpa using hj)];rfl
   have J:=gv (z9 (vs:=bV b) p (by simp[bV,R]));have ac:Hid (∀k,k<a.heap.size->((a.alloc (.cells #[.int .u8 0,.int .u8 0,.int .u8 0,.int .u8 0,.int .u8 0] 184 (0,0))).setCells a.heap.size 0 (bV b)).heap[k]?=a.heap[k]?):=λk hk=>by rw[xz _ (by omega)];show(a.heap.push _)[k]?=_;rw[Array.getElem?_push,au (by omega)]
   have L:Hid (((a.alloc (.cells #[.int .u8 0,.int .u8 0,.int .u8 0,.int .u8 0,.int .u8 0] 184 (0,0))).setCells a.heap.size 0 (bV b)).heap.size=a.heap.size+1):=by unfold Hid;rw[Cq];simp
   have s:Hid (Below a.heap.size a ((a.alloc (.cells #[.int .u8 0,.int .u8 0,.int .u8 0,.int .u8 0,.int .u8 0] 184 (0,0))).setCells a.heap.size 0 (bV b))):=gv (vW _ _ (af _) _ _ _ _ ((aj _ _).alloc (af _) _));clear p u;have bb:=Gp a.heap.size c hn a5;have C:Hid (∀e,(a.alloc (.cells #[.int .u8 0,.int .u8 0,.int .u8 0,.int .u8 0,.int .u8 0] 184 (0,0))).setCells a.heap.size 0 (bV b)=e->e.ownsRow B 5 1 (.slice E j.length G) j.length (j.map λm:Nat=>.int .u8 (m:Int))/\e.heap[a.heap.size]?=some (.cells (bV b).toArray 184 (0,0))/\gD 5 B [] w e/\e.heap.size=a.heap.size+1):=by intro e hW;subst hW;exact⟨wJ A.o s.o,J.o,gD.thenB y.o s.o,L.o⟩
   clear J ac L s A y;go_wp2_with (first | (refine eW rfl 184 (.tmp 7) (.tmp 19) rfl a.heap.size 0 (bV b).toArray rfl rfl M.o K.o l ?_;generalize I:World.setCells (a.alloc _) a.heap.size 0 (bV b)=e;obtain⟨O,F,N,P⟩:=C.o e I;have D:=gv O;have V:=gv F;have W:=gv N;have Y:=gv P;clear I O F N P C M K l) | (at_builtin;refine aK _ rfl (.tmp 20) (.tmp 23) 23 rfl B 5 i0 (.int .u8 0) 1 1 aq hi al a1 a2 rfl (by decide) (.slice E j.length G) j.length _ rfl D.o ⟨a.heap.size,0,none⟩ (c+1) 5 (bV (b.take (c+1))) rfl (by unfold bV;rw[av,S,Nat.mul_one]) ?hnews ?hone ?h63 ?hby ?hbs ?_))
   case hnews =>
    intro a3 U d;rw[aa,cb V.o];unfold bV at d ⊢;rw[List.map_take,cR]at d;split at d;·simpa using d
    ·cases d
   case hone=>intro U d;obtain⟨m,_,rfl⟩:=cv.1 d;rfl
   case h63=>unfold maxLen;omega
   case hby=>omega
   case hbs=>have:=Y.o;omega
   intro r w2 t q _;have z:=gv (W.o.grown q (nR D.o));have X:=gv t;clear q t;go_wp2;go_ret;refine⟨r,rfl,?_,z.o⟩;rw[aH,ab,S];exact X.o
theorem IP(a:List Nat)(g:0<a.length):jn a=mX (nth a 0) (nth a 1) (nth a 2) (nth a 3) (min a.length 4)++jn (a.drop (min a.length 4)):=by
 match a,g with
 | [b],_=>rfl
 | [b,c],_=>rfl
 | [b,c,d],_=>rfl
 |b::c::d::e::a,_ =>
  have h:min (b::c::d::e::a).length 4=4:=by simp
  rw[h];show(if b=0/\c=0/\d=0/\e=0 then[122]else i3 (kB b c d e))++jn a=mX b c d e 4++jn a;congr 1;unfold mX;by_cases f:b=0/\c=0/\d=0/\e=0;·rw[aA f,aA ⟨rfl,f⟩]
  ·rw[au f,au (λg=>f g.2)];rfl
theorem JY(b c d e a:Nat)(f:1<=a)(g:a<=4):(mX b c d e a).length<=a+1:=by
 unfold mX;split;·simp<;>omega
 ·rw[ax];omega
theorem I6(a:List Nat)(e:0<a.length):((bV (a.take 4))++([Value.int .u8 0,.int .u8 0,.int .u8 0,.int .u8 0]:List Value).drop (bV (a.take 4)).length)=[.int .u8 (nth a 0:Nat),.int .u8 (nth a 1:Nat),.int .u8 (nth a 2:Nat),.int .u8 (nth a 3:Nat)]:=by
 match a,e with
 | [b],_=>rfl
 | [b,c],_=>rfl
 | [b,c,d],_=>rfl
 |b::c::d::f::a,_=>rfl
theorem nl{b:List Nat}(d:∀a,a<b.length->nth b a<256)(a:Nat):nth b a<256:=by
 by_cases c:a<b.length;·exact d a c
 ·have:nth b a=0:=by simp[nth,List.getElem?_eq_none (show b.length<=a by omega)]
  omega
theorem IG{b d:Nat}(S:nA w B (some ⟨b,d,none⟩) data)(hB:B<=w.heap.size)(N:∀h,h<data.length->nth data h<256)(len:data.length<=200000)(lc:data.length<=cap/\cap<=9223372036854775807) :
  Calls Tryz.prog 102 #[.slice (some ⟨b,d,none⟩) data.length cap] w λp V=>∃f,p=.returned f/\V.ownsRow B 5 1 f (jn data).length ((jn data).map λu:Nat=>.int .u8 (u:Int))/\gD 5 B [] w V:=by
 obtain⟨i0,s,a9,D,ba⟩:=bu Tryz.infoByte;have J:Hid (jn (data.drop 0)=jn data):=gv rfl;have Y:=gv S;have W:=gv N;generalize jn data=al at *;clear S N;go_enter Tryz.func102,Tryz.ntmps102;go_wp2;go_loopw [0,3] (λx f wr=>∃(c:Nat) (e:List Nat) (G:Addr),c<=data.length/\x=.slice (some G) (data.length-c) (cap-c)/\(c<data.length->G=⟨b,d+c,none⟩)/\Hid (e++jn (data.drop c)=al)/\e.length<=2*c/\wr.ownsRow B 5 1 f e.length (e.map λu:Nat=>.int .u8 (u:Int))/\gD 5 B [] w wr) (λx _ _=>sL x)
 case atStart=>exact⟨0,[],⟨b,d,none⟩,by omega,rfl,λ_=>rfl,J,by simp,bk _ _ _ _,gD.refl _ _ _ _⟩
 clear J
 case round =>
  obtain⟨c,e,G,hp,rfl,a5,v,bn,A,E⟩:=hrel;obtain⟨L,O,rfl⟩:=i_ A;have l:=gv A;have m:=gv E;have br:=E.size;clear A E;by_cases hz:c<data.length
  ·obtain rfl:=a5 hz;have H:=gv ((Y.o.kept m.o (by simp)).drop c);have k:Hid (∀h,h<(data.drop c).length->nth (data.drop c) h<256):=by intro h s;rw[aU]at s;have:=W.o (c+h) (by omega);simpa[nth,dC]using this
   have y:data.length-c=(data.drop c).length:=by rw[aU]
   have Z:Hid (∀n,(data.drop c).drop n=data.drop (c+n)):=λn=>by rw[eA]
   rw[y];generalize data.drop c=a at *;have ad:=gv y;have Q:0<a.length:=by omega
   have bb:(0:Int)<a.length:=by omega
   have bf:a.length<=200000:=by omega
   have bc:a.length<=cap-c:=by omega
   clear y;have K:=gv (IP a Q);have I:=gv (I6 a Q);obtain⟨n,t⟩:∃n,n=min a.length 4:=⟨_,rfl⟩;have i:(bV (a.take 4)).length=n:=by unfold bV;rw[av,ax,Nat.min_comm];exact t.symm
   rw[<-t]at K;have a4:1<=n/\n<=4/\n<=a.length:=by omega
   have q0:=nl k.o 0;have q1:=nl k.o 1;have q2:=nl k.o 2;have q3:=nl k.o 3;have z:(wr.alloc (.cells #[.int .u8 0,.int .u8 0,.int .u8 0,.int .u8 0] 153 (0,0))).heap[wr.heap.size]?=some (.cells #[.int .u8 0,.int .u8 0,.int .u8 0,.int .u8 0] 153 (0,0)):=jd _ _;have U:Hid (∀j f,(bV (a.take 4))[j]?=some f->(wr.alloc (.cells #[.int .u8 0,.int .u8 0,.int .u8 0,.int .u8 0] 153 (0,0))).cell? ((⟨b,d+c,none⟩:Addr).add j)=some f):=by have a1:nA (wr.alloc (.cells #[.int .u8 0,.int .u8 0,.int .u8 0,.int .u8 0] 153 (0,0))) B (some ⟨b,d+c,none⟩) a:=H.o.below ((aj _ _).alloc (af _) _);intro j f C;obtain⟨hj,rfl⟩:=aX.1 C;rw[i]at hj;obtain⟨b',o',e1,_,e3⟩:=a1 j (by omega);cases e1;rw[Ak,e3];simp[bV,nth,ai (show j<a.length by omega)]
   have R:Hid (∀g,(wr.alloc (.cells #[.int .u8 0,.int .u8 0,.int .u8 0,.int .u8 0] 153 (0,0))).setRow wr.heap.size (List.take 0 (#[Value.int .u8 0,.int .u8 0,.int .u8 0,.int .u8 0]:Array Value).toList++(bV (a.take 4)++List.drop (0+(bV (a.take 4)).length) (#[Value.int .u8 0,.int .u8 0,.int .u8 0,.int .u8 0]:Array Value).toList)).toArray=g ->
     g.heap[wr.heap.size]?=some (.cells #[.int .u8 (nth a 0:Nat),.int .u8 (nth a 1:Nat),.int .u8 (nth a 2:Nat),.int .u8 (nth a 3:Nat)] 153 (0,0))/\Below wr.heap.size wr g):=by
    intro g q;subst q;refine⟨?_,below_setRow ((aj _ _).alloc (af _) _) (af _) _⟩;rw[setRow_heap _ _ _ _ _ _ z];have p:(List.take 0 (#[Value.int .u8 0,.int .u8 0,.int .u8 0,.int .u8 0]:Array Value).toList++(bV (a.take 4)++List.drop (0+(bV (a.take 4)).length) (#[Value.int .u8 0,.int .u8 0,.int .u8 0,.int .u8 0]:Array Value).toList))=[.int .u8 (nth a 0:Nat),.int .u8 (nth a 1:Nat),.int .u8 (nth a 2:Nat),.int .u8 (nth a 3:Nat)]:=by rw[List.take_zero,cC,b_];exact I.o
    rw[p]
   have r:=run_copy_row (P:= Tryz.prog) (wr.alloc (.cells #[.int .u8 0,.int .u8 0,.int .u8 0,.int .u8 0] 153 (0,0))) 23 23 3 5 wr.heap.size 0 4 4 ⟨b,d+c,none⟩ a.length (cap-c) #[.int .u8 0,.int .u8 0,.int .u8 0,.int .u8 0] 153 (bV (a.take 4)) aq (by rw[s];simp[D]) z (by rw[i];exact t) U.o (by rw[i];show 0+n<=4;omega) (by intro f C;obtain⟨u,_,rfl⟩:=cv.1 C;rfl);generalize q:World.setRow _ wr.heap.size _=g at r;obtain⟨M,o⟩:=R.o g q;rw[i]at r;have bd:(Builtin.copy_ #[23,23] 3 #[.slice (some ⟨wr.heap.size,0,none⟩) 4 4,.slice (some ⟨b,d+c,none⟩) a.length (cap-c)]).run Tryz.prog (wr.alloc (.cells #[.int .u8 0,.int .u8 0,.int .u8 0,.int .u8 0] 153))=.ok (.int .i64 (n:Int)) g:=r;have OO:=gv (sY l.o o);have K2:=gv (gD.thenBelow m.o o);have a7:B<=g.heap.size:=by have:=o.size;omega
   obtain⟨g0,g1,g2,g3⟩:=CK M;have ac:=gv (JY (nth a 0) (nth a 1) (nth a 2) (nth a 3) n (by omega) (by omega));have X:=gv (GU (B:=B) (.slice L e.length O) e OO.o a7 (by omega) (nth a 0) (nth a 1) (nth a 2) (nth a 3) n q0 q1 q2 q3 (by omega) (by omega));have bm:1<=n/\n<=4/\n<=a.length:=a4;clear z I r q R U M o l m t i H;generalize nth a 0=x0 at *;generalize nth a 1=x1 at *;generalize nth a 2=x2 at *;generalize nth a 3=x3 at *;go_wp2_with fail;refine X.o.mono ?_;rintro p w3 ⟨v3,rfl,F,k3⟩;have O3:=gv F;obtain⟨a3,c3,rfl⟩:=i_ F;clear F;go_wp2;go_roundw
   case rel =>
    have hL:=ad.o;have bq:=ac.o;refine⟨c+n,e++mX x0 x1 x2 x3 n,if cap-c=n then⟨b,d+c,none⟩else⟨b,d+c+n,none⟩,by omega,?_,?_,?_,?_,by have:=O3.o;rw[ab]at this ⊢;exact this,K2.o.trans k3⟩
    ·rw[show data.length-(c+n)=a.length-n by omega,show cap-(c+n)=cap-c-n by omega];split<;>rfl
    ·intro bi;rw[au (by omega),cL]
    ·rw[<-Z.o,<-v.o,K.o,ak];exact gv rfl
    ·rw[ab];omega
   case measure=>simp[sL];omega
  ·obtain rfl:c=data.length:=by omega
   have a2:jn (data.drop data.length)=[126,62]:=by rw[dY];rfl
   rw[a2]at v;rw[dU];have a8:=gv (Src.ofString (P:= Tryz.prog) wr (tx:= 9) cN { data:=#[126,62] });go_wp2_with (at_builtin;refine xP rfl (.tmp 19) (.const (.string { data:=#[126,62] })) 23 9 rfl B 5 i0 (.int .u8 0) 1 aq s a9 D ba rfl (.slice L e.length O) e.length _ rfl l.o (.string { data:=#[126,62] }) 2 (bV [126,62]) rfl (by rw[D];exact a8.o) (by omega) (by unfold maxLen;omega) (by omega) (by omega) ?_);intro v' w2 a6 T;have k2:=m.o.grown T (nR l.o);clear T;go_wp2;go_ret;refine⟨v',rfl,?_,k2⟩;rw[<-v.o,aH,ab];exact a6
structure zM(w:World)(bd off cap:Nat)(d:List Nat):Prop where
 lt:bd<w.heap.size
 cell:∀i,i<d.length->w.cell? ⟨bd,off+i,none⟩=some (.int .u8 (nth d i:Nat))
 byt:∀i,i<d.length->nth d i<256
 cp:d.length<=cap
 lc:cap<=9223372036854775807
structure zL(f:Nat)(data enc:List Nat):Prop where
 pos:0<enc.length
 len:enc.length<=2*data.length+20
 byt:∀x∈enc,x<256
 ok:∀(w:World) (bd off cap most:Nat),zM w bd off cap enc->most<=1000000->data.length<=most->Calls Tryz.prog 80 #[.int .i64 f,.slice (some ⟨bd,off,none⟩) enc.length cap,.int .i64 most] w λe w'=>∃v,e=.returned v/\w'.ownsRow w.heap.size 5 1 v data.length (data.map λx:Nat=>.int .u8 (x:Int))/\Below w.heap.size w w'
 cap:∀(w:World) (bd off cap most:Nat),zM w bd off cap enc->most<data.length->most<=1000000->Calls Tryz.prog 80 #[.int .i64 f,.slice (some ⟨bd,off,none⟩) enc.length cap,.int .i64 most] w λe w'=>e=gU 6/\Below w.heap.size w w'
 cut:∀(w:World) (bd off cap most:Nat),zM w bd off cap enc.dropLast->most<=1000000->data.length<=most->Calls Tryz.prog 80 #[.int .i64 f,.slice (some ⟨bd,off,none⟩) enc.dropLast.length cap,.int .i64 most] w λe w'=>e=gU 5/\Below w.heap.size w w'
theorem AV{a:List Nat}(e:∀f∈a,f<256)(b:Nat)(c:b<a.length):nth a b<256:=by
 have d:nth a b=a[b]:=by simp only[nth,bI,ai c,Option.getD_some]
 rw[d];exact e _ (df c)
theorem zM.rd{w:World}{b d cap most:Nat}{c:List Nat}(a:zM w b d cap c)(e:most<=1000000) :
  Rd w.heap.size w.heap.size b d cap c most (w.alloc (.cells #[.slice (some ⟨b,d,none⟩) c.length cap,.int .i64 0,.slice none 0 0,.int .i64 most] 141 (0,0))) 0 (.slice none 0 0) []:=
 Rd.start (most:=most) a.lt a.cell a.byt a.cp a.lc e
theorem I8:∀(d:List Nat),(∀c∈d,c<256)->∀c∈iH d,c<256:=by
 intro d;induction d with
 |nil=>intro _ c a;simp[iH]at a
 |cons b d ih =>
  intro e c a;rw[mP]at a;have j:=e b (by simp);have f:∀g:Fin 16,gP g.val<256:=by decide +kernel
  rcases bT.1 a with rfl | a;·exact f ⟨b/16,by omega⟩
  rcases bT.1 a with rfl | a;·exact f ⟨b%16,by omega⟩
  ·exact ih (λi h=>e i (by simp[h])) c a
theorem CY(i:∀f∈data,f<256):zL 1 data (iH data++[62]):=by
 have o:=jw data;have e:=λn m=>AV i n m;refine⟨by simp,by rw[ab];show(iH data).length+1<=_;omega,?_,?_,?_,?_⟩
 ·intro f d;rcases bH.1 d with d | d;·exact I8 data i f d
  ·simp at d;omega
 ·intro w g k cap j a c b;exact I1 (a.rd c) (λw h B l r=>Iq data e rfl r b)
 ·intro w g k cap j a b c;exact Fq (a.rd c) (λw h B l r=>Io data e rfl r b)
 ·intro w g k cap j a c b;rw[List.dropLast_concat]at a ⊢;exact Fq (a.rd c) (λw h B l r=>CP data e rfl r b)
theorem BS{a:Nat}(d:a<=4294967295):∀c∈i3 a,c<256:=by
 intro c b;have:a/52200625<=84:=by omega
 simp only[i3,bT,eS,or_false]at b;rcases b with rfl | rfl | rfl | rfl | rfl<;>omega
theorem ef:∀(g:List Nat),(∀c∈g,c<256)->(∀c∈jn g,c<256)/\(jn g).length<=2*g.length+2
 | [],_=>⟨by simp[jn],by simp[jn]⟩
 | [d],b=>by
  have e:=b d (by simp);have f:=BS (vl e (by omega:0<256) (by omega:0<256) (by omega:0<256));refine⟨?_,by simp[jn,i3]⟩;intro c a;simp only[jn,bH]at a;rcases a with a | a;·exact f c (cK a)
  ·simp at a;omega
 | [d,h],b=>by
  have e:=b d (by simp);have i:=b h (by simp);have f:=BS (vl e i (by omega:0<256) (by omega:0<256));refine⟨?_,by simp[jn,i3]⟩;intro c a;simp only[jn,bH]at a;rcases a with a | a;·exact f c (cK a)
  ·simp at a;omega
 | [d,h,j],b=>by
  have e:=b d (by simp);have i:=b h (by simp);have k:=b j (by simp);have f:=BS (vl e i k (by omega:0<256));refine⟨?_,by simp[jn,i3]⟩;intro c a;simp only[jn,bH]at a;rcases a with a | a;·exact f c (cK a)
  ·simp at a;omega
 |d::h::j::l::g,b=>by
  have e:=b d (by simp);have i:=b h (by simp);have k:=b j (by simp);have h3:=b l (by simp);have f:=BS (vl e i k h3);obtain⟨m,n⟩:=ef g (λc a=>b c (by simp[a]));refine⟨?_,?_⟩
  ·intro c a;simp only[jn,bH]at a;rcases a with a | a
   ·split at a;·simp at a;omega
    ·exact f c a
   ·exact m c a
  ·simp only[jn,ab,ag];split;·simp;omega
   ·simp[i3];omega
theorem AE(d:∀k∈data,k<256):zL 2 data (jn data):=by
 obtain⟨j,l⟩:=ef data d;have m:=ep data;refine⟨by omega,by omega,j,?_,?_,?_⟩
 ·intro w e h cap g b c a;exact I5 (b.rd c) (λw f B i r=>Ij data d rfl r a)
 ·intro w e h cap g b a c;exact Ft (b.rd c) (λw f B i r=>Ie data d rfl r a)
 ·intro w e h cap g b c a;exact Ft (b.rd c) (λw f B i r=>CM data d rfl r a)
theorem AF(e:∀g∈data,g<256):zL 3 data (jX data):=by
 have f:jX data=iI (data.length+1) data++[128]:=by rw[jX,lP]
 have m:=nS (data.length+1) data;refine⟨by rw[f];simp,by rw[f,ab];simp;omega,?_,?_,?_,?_⟩
 ·intro g b;rw[f]at b;rcases bH.1 b with b | b;·exact m0 _ data e g b
  ·simp at b;omega
 ·intro w h k cap j a d c;exact I4 (a.rd d) (λw i B l r=>Iv data e rfl r c)
 ·intro w h k cap j a c d;exact AD (a.rd d) (λw i B l r=>Ir data e rfl r c)
 ·intro w h k cap j a d c;rw[IL]at a ⊢;exact AD (a.rd d) (λw i B l r=>CQ data e rfl r c)
theorem GC(b:List Nat):∀c∈sum4 b,c<256:=by have:=DS b;intro c a;simp only[sum4,bT,eS,or_false]at a;rcases a with rfl | rfl | rfl | rfl<;>omega
theorem CZ{bl:List Nat}(u:∀d∈data,d<256)(j:Pa data bl)(c:bl.length<=data.length+5)(v:∀d∈bl,d<256):zL 4 data (pr data bl):=by
 have p:=λn l=>AV u n l;have b:pr data bl=120::156::(bl++sum4 data):=by simp[pr]
 have x:(sum4 data).length=4:=rfl;have y:(pr data bl).length=bl.length+6:=by rw[b];simp[x]
 have i:(pr data bl).dropLast=120::156::(bl++(sum4 data).dropLast):=by rw[b,List.dropLast_cons_of_ne_nil (by simp),List.dropLast_cons_of_ne_nil (by simp[sum4]),List.dropLast_append_of_ne_nil (by simp[sum4])]
 refine⟨by omega,by omega,?_,?_,?_,?_⟩
 ·intro d a;rw[b]at a;rcases bT.1 a with rfl | a;·omega
  rcases bT.1 a with rfl | a;·omega
  rcases bH.1 a with a | a;·exact v d a
  ·exact GC data d a
 ·intro w o s cap h f g c;obtain⟨r,k,m⟩:=j.unp h (sum4 data) c;refine CX (f.rd g) (λw q B t e=>Im e (by omega) (by rw[b];rfl) (by rw[b];rfl) (r:=r) (data:=data) (by rw[b];exact k) (sum4 data) rfl (λn l=>AV (GC data) n l) m rfl p)
 ·intro w o s cap h f c g;refine Fu (f.rd g) (λw q B t e=>CN e (by omega) (by rw[b];rfl) (by rw[b];rfl) (by rw[b];exact j.no h (sum4 data) c))
 ·intro w o s cap h f g c;obtain⟨r,k,m⟩:=j.unp h (sum4 data).dropLast c;refine Fu (f.rd g) (λw q B t e=>Il e (by rw[List.length_dropLast];omega) (by rw[i];rfl) (by rw[i];rfl) (r:=r) (data:=data) (by rw[i];exact k) (sum4 data).dropLast rfl m p)
theorem AB{n:Nat}{P:Value->World->Prop}(d:Calls Tryz.prog 102 #[.slice ao n cap] w λb c=>∃a,b=.returned a/\P a c) :
  Calls Tryz.prog 70 #[.int .i64 2,.slice ao n cap] w λb c=>∃a,b=.returned a/\P a c:=by
 have e:=gv d;clear d;go_enter Tryz.func70,Tryz.ntmps70;go_wp2_with fail;refine e.o.mono ?_;rintro b g ⟨a,rfl,f⟩;go_wp2;go_ret;exact⟨a,rfl,f⟩
theorem IM(cap:Nat):Calls Tryz.prog 103 #[.slice ao 0 cap] w λg e=>∃a,g=.returned a/\e.ownsRow w.heap.size 5 1 a 1 ([128].map λb:Nat=>.int .u8 (b:Int))/\gD 5 w.heap.size [] w e:=by
 obtain⟨n,i,k,l,m⟩:=bu Tryz.infoByte;go_enter Tryz.func103,Tryz.ntmps103;go_wp2;go_loopw [0,3] (λf a wr=>f=.slice ao 0 cap/\a=.slice none 0 0/\wr=w) (λ_ _ _=>0)
 case atStart=>exact⟨rfl,rfl,rfl⟩
 case round =>
  obtain⟨rfl,rfl,rfl⟩:=hrel;go_wp2_with (at_builtin;refine aK _ rfl (.tmp 37) (.tmp 38) 23 rfl wr.heap.size 5 n (.int .u8 0) 1 1 aq i k l m rfl (by decide) (.slice none 0 0) 0 [] rfl (bk _ _ _ _) ⟨wr.heap.size,0,none⟩ 1 1 ([128].map λb:Nat=>.int .u8 (b:Int)) rfl rfl ?hnews ?hone ?h63 ?hby ?hbs ?_)
  case hnews=>exact u0 rfl
  case hone=>intro r d;simp at d;subst d;rfl
  case h63=>unfold maxLen;omega
  case hby=>omega
  case hbs=>simp
  intro p s j c _;have o:=((gD.refl 5 wr.heap.size [] wr).alloc _).grown c (λq h=>by simp[Value.ownBlock]at h);clear c;go_wp2;go_ret;exact⟨p,rfl,j,o⟩
theorem IE(cap:Nat):Calls Tryz.prog 102 #[.slice ao 0 cap] w λf d=>∃a,f=.returned a/\d.ownsRow w.heap.size 5 1 a 2 ([126,62].map λq:Nat=>.int .u8 (q:Int))/\gD 5 w.heap.size [] w d:=by
 obtain⟨m,h,k,c,l⟩:=bu Tryz.infoByte;go_enter Tryz.func102,Tryz.ntmps102;go_wp2;go_loopw [0,3] (λe a wr=>e=.slice ao 0 cap/\a=.slice none 0 0/\wr=w) (λ_ _ _=>0)
 case atStart=>exact⟨rfl,rfl,rfl⟩
 case round=>obtain⟨rfl,rfl,rfl⟩:=hrel;have j:=gv (Src.ofString (P:= Tryz.prog) wr (tx:= 9) cN { data:=#[126,62] });go_wp2_with (at_builtin;refine xP rfl (.tmp 19) (.const (.string { data:=#[126,62] })) 23 9 rfl wr.heap.size 5 m (.int .u8 0) 1 aq h k c l rfl (.slice none 0 0) 0 _ rfl (bk _ _ _ _) (.string { data:=#[126,62] }) 2 (bV [126,62]) rfl (by rw[c];exact j.o) (by omega) (by unfold maxLen;omega) (by omega) (by omega) ?_);intro p s i b;have n:=(gD.refl 5 wr.heap.size [] wr).grown b (λr g=>by simp[Value.ownBlock]at g);clear b;go_wp2;go_ret;exact⟨p,rfl,i,n⟩
end
end Go.Proofs.YtgkljcmjnphpeaaGreatDoor
