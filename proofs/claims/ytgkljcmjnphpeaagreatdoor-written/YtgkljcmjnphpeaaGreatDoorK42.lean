import Derived.Test.YtgkljcmjnphpeaaGreatDoorK40
set_option linter.unusedVariables false
set_option linter.unusedSimpArgs false
set_option maxHeartbeats 2000000
set_option maxRecDepth 100000
namespace Go.Proofs.YtgkljcmjnphpeaaGreatDoor
open Go.RowKit
section
variable{B br bd off cap:Nat}{d:List Nat}{most:Nat}{w:World}{p:Nat}{c:Value}{out:List Nat}
theorem yI{w:World}{f:Nat}:∀b e,([f].map λg:Nat=>Value.int .u8 (g:Int))[b]?=some e->(w.alloc (.cells #[.int .u8 (f:Nat)] 5)).cell? ((⟨w.heap.size,0,none⟩:Addr).add b)=some e:=by
 intro b e a;match b,a with
 |0,a=>rw[aa,World.cell?_alloc_new];exact a
 |b+1,a=>simp at a
theorem J3(i:Rd B br bd off cap d most w p c out)(b a:Nat)(Q:b<256)(V:a<=1000000)(F:out.length+a<=most) :
  Calls Tryz.prog 218 #[.pointer (some ⟨br,0,none⟩),.int .u8 b,.int .i64 a] w λs x=>s=.returned (.tuple #[])/\∃e,Rd B br bd off cap d most x p e (out++List.replicate a b)/\gD 5 B [br] w x:=by
 obtain⟨K,D,H,I,J⟩:=bu Tryz.infoByte;have o:=gv (DJ i a F);go_enter Tryz.func218,Tryz.ntmps218;go_wp2_with fail;refine o.o.mono ?_;rintro s w1 ⟨rfl,v,rfl⟩;go_wp2;go_loopw [10] (λm wr=>∃(k:Nat) (e:Value),k<=a/\m=.int .i64 k/\Rd B br bd off cap d most wr p e (out++List.replicate k b)/\gD 5 B [br] w wr) (λm _=>a-(intOf m).toNat)
 case atStart=>exact⟨0,c,aE _,rfl,by simpa using i.drewN v,(gD.refl _ _ _ _).drewN v⟩
 clear o i
 case round =>
  obtain⟨k,e,R,rfl,r,n⟩:=hrel;have E:(out++List.replicate k b).length=out.length+k:=by simp
  by_cases U:k<a
  ·have y:Hid (out++List.replicate (k+1) b=(out++List.replicate k b)++[b]):=by unfold Hid;rw[List.replicate_succ',ak]
   have S:=r.lm;have T:(out++List.replicate k b).length<=1000000:=by omega
   have G:(out++List.replicate k b).length+1<=most:=by omega
   clear E;generalize out++List.replicate k b=u at *;have O:=r.c2;have W:=r.sz;have g:=gv r;have q:=gv n;clear r n;go_wp2_with (at_builtin;refine aK _ rfl (.tmp 16) (.tmp 18) 23 rfl B 5 K (.int .u8 0) 1 1 aq D H I J rfl (by decide) e u.length _ rfl (g.o.alloc _).own ⟨wr.heap.size,0,none⟩ 1 1 ([b].map λN:Nat=>.int .u8 (N:Int)) rfl rfl ?hnews ?hone ?h63 ?hby ?hbs ?_)
   case hnews=>exact yI
   case hone=>intro Y t;simp at t;subst t;rfl
   case h63=>unfold maxLen;omega
   case hby=>omega
   case hbs=>simp;omega
   intro Z M l f _;have h:(wr.alloc (.cells #[.int .u8 (b:Nat)] 5)).grownBy M e.ownBlock:=⟨f.os,f.tape,f.output,f.size,f.block⟩;clear f;have j:=(g.o.alloc (.cells #[.int .u8 (b:Nat)] 5)).grown_blk h;have X:=qJ j;have P:=ix 2 j;obtain⟨C,L,rfl⟩:=i_ l;have A:=gv ((g.o.alloc (.cells #[.int .u8 (b:Nat)] 5)).put (xs:=[b]) G l h);have z:=gv (((q.o.alloc (.cells #[.int .u8 (b:Nat)] 5)).grown h (nR (g.o.alloc _).own)).setCell (p:=⟨br,2,none⟩) (by simp) (.slice C (u.length+1) L));clear l h j g q;go_wp2;go_roundw
   case rel=>exact⟨k+1,_,by omega,by go_num,by rw[y.o];exact A.o,z.o⟩
   case measure=>simp[intOf];omega
  ·obtain rfl:k=a:=by omega
   go_wp2
   go_end0
   exact⟨rfl,e,r,n⟩
theorem Ki(g:Rd B br bd off cap d most w p c out)(b a:Nat)(h:a<=1000000)(i:most<out.length+a) :
  Calls Tryz.prog 218 #[.pointer (some ⟨br,0,none⟩),.int .u8 b,.int .i64 a] w λe k=>e=gU 6/\gD 5 B [br] w k:=by
 have f:=gv (rn g a h i);go_enter Tryz.func218,Tryz.ntmps218;go_wp2_with fail;refine f.o.mono ?_;rintro e l ⟨rfl,j,rfl⟩;exact⟨rfl,rfl,(gD.refl _ _ _ _).drewN j⟩
theorem Kh(f:p<d.length)(e:nth d p=128):s6 158 B br bd off cap d most p out false (p+1) out:=by intro w c b;have a:=gv (tR b f);rw[e]at a;go_enter fZ,fR;go_wp2_with fail;refine a.o.mono ?_;rintro i j ⟨rfl,h,g⟩;go_wp2;go_ret;exact⟨rfl,c,h,g⟩
theorem Kd:ue 158 B br bd off cap d most d.length out 5:=by intro w c a;go_enter fZ,fR;go_wp2_with fail;refine(Ds a).mono ?_;rintro e f ⟨rfl,b⟩;exact⟨rfl,rfl,b⟩
theorem DM(a e:Nat)(C:2<=a)(D:a<=128)(n:p+1<d.length)(k:nth d p=257-a)(l:nth d (p+1)=e)(q:e<256)(m:out.length+a<=most):s6 158 B br bd off cap d most p out true (p+2) (out++List.replicate a e):=by
 intro w c j;have f:=gv (tR j (by omega));rw[k]at f;obtain⟨b,i⟩:∃b,b=257-a:=⟨_,rfl⟩;rw[<-i]at f;have e1:((b:Int)==128)=false:=by simp;omega
 have e2:¬ (b:Int)<128:=by omega
 have z:(257:Int)-b=a:=by omega
 have A:b<=255:=by omega
 clear i;go_enter fZ,fR;go_wp2_with fail;refine f.o.mono ?_;rintro h E ⟨rfl,v,r⟩;have g:=gv (tR v n);rw[l]at g;go_wp2_with fail;refine g.o.mono ?_;rintro h F ⟨rfl,x,s⟩;go_wp2_with fail;refine(J3 x e a q (by omega) m).mono ?_;rintro h G ⟨rfl,u,y,t⟩;go_wp2;go_ret;exact⟨rfl,u,y,(r.trans s).trans t⟩
theorem KA(a i:Nat)(y:2<=a)(z:a<=128)(n:p+1<d.length)(k:nth d p=257-a)(l:nth d (p+1)=i)(m:most<out.length+a):ue 158 B br bd off cap d most p out 6:=by
 intro w c j;have e:=gv (tR j (by omega));rw[k]at e;obtain⟨b,h⟩:∃b,b=257-a:=⟨_,rfl⟩;rw[<-h]at e;have e1:((b:Int)==128)=false:=by simp;omega
 have e2:¬ (b:Int)<128:=by omega
 have v:(257:Int)-b=a:=by omega
 have x:b<=255:=by omega
 clear h;go_enter fZ,fR;go_wp2_with fail;refine e.o.mono ?_;rintro g A ⟨rfl,t,q⟩;have f:=gv (tR t n);rw[l]at f;go_wp2_with fail;refine f.o.mono ?_;rintro g C ⟨rfl,u,r⟩;go_wp2_with fail;refine(Ki u i a (by omega) m).mono ?_;rintro g D ⟨rfl,s⟩;exact⟨rfl,rfl,(q.trans r).trans s⟩
theorem KE(a:Nat)(f:List Nat)(D:1<=a)(E:a<=128)(l:f.length=a)(t:p+1+a<=d.length)(r:nth d p=a-1)(k:∀b,b<a->nth d (p+1+b)=nth f b)(s:out.length+a<=most):s6 158 B br bd off cap d most p out true (p+1+a) (out++f):=by
 intro w c q;have g:=gv (tR q (by omega));rw[r]at g;obtain⟨e,rfl⟩:∃e,a=e+1:=⟨a-1,by omega⟩;rw[eZ]at g;have e1:((e:Int)==128)=false:=by simp;omega
 have e2:(e:Int)<128:=by omega
 have m:=gv k;clear k;go_enter fZ,fR;go_wp2_with fail;refine g.o.mono ?_;rintro j F ⟨rfl,z,u⟩;have n:=gv (Ae z (e+1) (by omega) t);go_wp2_with fail;refine n.o.mono ?_;rintro j G ⟨rfl,h,v⟩;have i:=gv (zZ h f ⟨bd,off+(p+1),none⟩ (cap-(p+1)) (by rw[l];exact s) (by have:=h.sz;omega) (λb C=>by rw[Ak,<-m.o b (by omega),cL];exact h.dat (p+1+b) (by omega)));rw[l]at i;go_wp2_with fail;refine i.o.mono ?_;rintro j H ⟨rfl,y,A,x⟩;go_wp2;go_ret;exact⟨rfl,y,A,(u.trans v).trans x⟩
theorem Kq(a:Nat)(s:1<=a)(t:a<=128)(k:p+1+a<=d.length)(i:nth d p=a-1)(j:most<out.length+a):ue 158 B br bd off cap d most p out 6:=by
 intro w c h;have e:=gv (tR h (by omega));rw[i]at e;obtain⟨b,rfl⟩:∃b,a=b+1:=⟨a-1,by omega⟩;rw[eZ]at e;have e1:((b:Int)==128)=false:=by simp;omega
 have e2:(b:Int)<128:=by omega
 go_enter fZ,fR;go_wp2_with fail;refine e.o.mono ?_;rintro f u ⟨rfl,q,l⟩;have g:=gv (Ae q (b+1) (by omega) k);go_wp2_with fail;refine g.o.mono ?_;rintro f v ⟨rfl,r,m⟩;go_wp2_with fail;refine(ze r (b+1) _ _ (by omega) j).mono ?_;rintro f x ⟨rfl,n,rfl⟩;exact⟨rfl,rfl,(l.trans m).drewN n⟩
end
def kB(a b c d:Nat):Nat:=a*16777216+b*65536+c*256+d
def i3(a:Nat):List Nat:=[33+a/52200625,33+a/614125%85,33+a/7225%85,33+a/85%85,33+a%85]
def jn:List Nat->List Nat
 |a::b::c::d::e=>(if a=0/\b=0/\c=0/\d=0 then[122]else i3 (kB a b c d))++jn e
 | [a,b,c]=>(i3 (kB a b c 0)).take 4++[126,62]
 | [a,b]=>(i3 (kB a b 0 0)).take 3++[126,62]
 | [a]=>(i3 (kB a 0 0 0)).take 2++[126,62]
 | []=>[126,62]
theorem vl{a b c d:Nat}(e:a<256)(f:b<256)(g:c<256)(h3:d<256):kB a b c d<=4294967295:=by unfold kB;omega
theorem Fe{a:Nat}(d:a<=4294967295):∀b,b<5->33<=nth (i3 a) b/\nth (i3 a) b<=117:=by
 intro b c;have:a/52200625<=84:=by omega
 match b,c with
 |0,_=>exact⟨by show 33<=33+_;omega,by show 33+a/52200625<=117;omega⟩
 |1,_=>exact⟨by show 33<=33+_;omega,by show 33+a/614125%85<=117;omega⟩
 |2,_=>exact⟨by show 33<=33+_;omega,by show 33+a/7225%85<=117;omega⟩
 |3,_=>exact⟨by show 33<=33+_;omega,by show 33+a/85%85<=117;omega⟩
 |4,_=>exact⟨by show 33<=33+_;omega,by show 33+a%85<=117;omega⟩
theorem qM(a:Nat):a=85*(a/85)+a%85/\a/85=85*(a/7225)+a/85%85/\a/7225=85*(a/614125)+a/7225%85/\a/614125=85*(a/52200625)+a/614125%85:=by
 have e1:a/7225=a/85/85:=by rw[cX]
 have e2:a/614125=a/7225/85:=by rw[cX]
 have b:a/52200625=a/614125/85:=by rw[cX]
 omega
theorem BI(a b c d e:Nat):qI [a,b,c,d,e] 0=((((a-33)*85+(b-33))*85+(c-33))*85+(d-33))*85+(e-33):=by show((((0*85+(a-33))*85+(b-33))*85+(c-33))*85+(d-33))*85+(e-33)=_;rw[Nat.zero_mul,b_]
theorem ID{a:Nat}(d:a<=4294967295):qI (i3 a) 0=a:=by unfold i3;rw[BI];obtain⟨e1,e2,b,c⟩:=qM a;omega
theorem JN{a b c d:Nat}(i:a<256)(j:b<256)(k:c<256)(h3:d<256):aO (kB a b c d)=[a,b,c,d]:=by
 unfold aO kB;have e:(a*16777216+b*65536+c*256+d)/16777216=a:=by omega
 have f:(a*16777216+b*65536+c*256+d)/65536%256=b:=by omega
 have g:(a*16777216+b*65536+c*256+d)/256%256=c:=by omega
 have h:(a*16777216+b*65536+c*256+d)%256=d:=by omega
 rw[e,f,g,h]
theorem Eo{S a b c:Nat}(f:a<256)(g:b<256)(h:c<256)(j:a*16777216+b*65536+c*256<=S)(i:S<a*16777216+b*65536+c*256+256):S/16777216=a/\S/65536%256=b/\S/256%256=c:=by
 have e1:S/256=a*65536+b*256+c:=by omega
 have e2:S/65536=S/256/256:=by rw[cX]
 have d:S/65536=a*256+b:=by rw[e2,e1];omega
 have e:S/16777216=S/65536/256:=by rw[cX]
 refine⟨by rw[e,d];omega,by rw[d];omega,by rw[e1];omega⟩
theorem En{S a b:Nat}(e:a<256)(f:b<256)(h:a*16777216+b*65536<=S)(g:S<a*16777216+b*65536+65536):S/16777216=a/\S/65536%256=b:=by
 have c:S/65536=a*256+b:=by omega
 have d:S/16777216=S/65536/256:=by rw[cX]
 refine⟨by rw[d,c];omega,by rw[c];omega⟩
theorem tr{b c d:Nat}(h:b<256)(i:c<256)(j:d<256) :
  sZ (nth (i3 (kB b c d 0)) 0) (nth (i3 (kB b c d 0)) 1) (nth (i3 (kB b c d 0)) 2) (nth (i3 (kB b c d 0)) 3) 4<=4294967295/\(aO (sZ (nth (i3 (kB b c d 0)) 0) (nth (i3 (kB b c d 0)) 1) (nth (i3 (kB b c d 0)) 2) (nth (i3 (kB b c d 0)) 3) 4)).take 3=[b,c,d]:=by
 obtain⟨a,f⟩:∃a,a=kB b c d 0:=⟨_,rfl⟩;rw[<-f];have g:sZ (nth (i3 a) 0) (nth (i3 a) 1) (nth (i3 a) 2) (nth (i3 a) 3) 4=qI [33+a/52200625,33+a/614125%85,33+a/7225%85,33+a/85%85,117] 0:=rfl;obtain⟨e1,e2,o,p⟩:=qM a;unfold kB at f;rw[g,BI];obtain⟨e,k⟩:∃e,e=((((33+a/52200625-33)*85+(33+a/614125%85-33))*85+(33+a/7225%85-33))*85+(33+a/85%85-33))*85+(117-33):=⟨_,rfl⟩;rw[<-k];have r:a<=e:=by omega
 have q:e<a+85:=by omega
 refine⟨by omega,?_⟩;show[e/16777216,e/65536%256,e/256%256]=_;obtain⟨l,m,n⟩:=Eo (S:=e) h i j (by omega) (by omega);rw[l,m,n]
theorem tq{b c:Nat}(g:b<256)(h:c<256) :
  sZ (nth (i3 (kB b c 0 0)) 0) (nth (i3 (kB b c 0 0)) 1) (nth (i3 (kB b c 0 0)) 2) (nth (i3 (kB b c 0 0)) 3) 3<=4294967295/\(aO (sZ (nth (i3 (kB b c 0 0)) 0) (nth (i3 (kB b c 0 0)) 1) (nth (i3 (kB b c 0 0)) 2) (nth (i3 (kB b c 0 0)) 3) 3)).take 2=[b,c]:=by
 obtain⟨a,e⟩:∃a,a=kB b c 0 0:=⟨_,rfl⟩;rw[<-e];have f:sZ (nth (i3 a) 0) (nth (i3 a) 1) (nth (i3 a) 2) (nth (i3 a) 3) 3=qI [33+a/52200625,33+a/614125%85,33+a/7225%85,117,117] 0:=rfl;obtain⟨e1,e2,l,m⟩:=qM a;unfold kB at e;rw[f,BI];obtain⟨d,i⟩:∃d,d=((((33+a/52200625-33)*85+(33+a/614125%85-33))*85+(33+a/7225%85-33))*85+(117-33))*85+(117-33):=⟨_,rfl⟩;rw[<-i];have o:a<=d:=by omega
 have n:d<a+7225:=by omega
 refine⟨by omega,?_⟩;show[d/16777216,d/65536%256]=_;obtain⟨j,k⟩:=En (S:=d) g h (by omega) (by omega);rw[j,k]
theorem tj{b:Nat}(i:b<256) :
  sZ (nth (i3 (kB b 0 0 0)) 0) (nth (i3 (kB b 0 0 0)) 1) (nth (i3 (kB b 0 0 0)) 2) (nth (i3 (kB b 0 0 0)) 3) 2<=4294967295/\(aO (sZ (nth (i3 (kB b 0 0 0)) 0) (nth (i3 (kB b 0 0 0)) 1) (nth (i3 (kB b 0 0 0)) 2) (nth (i3 (kB b 0 0 0)) 3) 2)).take 1=[b]:=by
 obtain⟨a,d⟩:∃a,a=kB b 0 0 0:=⟨_,rfl⟩;rw[<-d];have e:sZ (nth (i3 a) 0) (nth (i3 a) 1) (nth (i3 a) 2) (nth (i3 a) 3) 2=qI [33+a/52200625,33+a/614125%85,117,117,117] 0:=rfl;obtain⟨e1,e2,g,h⟩:=qM a;unfold kB at d;rw[e,BI];obtain⟨c,f⟩:∃c,c=((((33+a/52200625-33)*85+(33+a/614125%85-33))*85+(117-33))*85+(117-33))*85+(117-33):=⟨_,rfl⟩;rw[<-f];have k:a<=c:=by omega
 have j:c<a+614125:=by omega
 refine⟨by omega,?_⟩;show[c/16777216]=_;rw[show c/16777216=b by omega]
section
variable{B f r m l:Nat}{d:List Nat}{a:Nat}{w:World}{p:Nat}{s:Value}{b:List Nat}
theorem JS{c:List Nat}(w:World):Calls Tryz.prog 215 #[.pointer (some ⟨f,0,none⟩),.agg (bV (gS c 0)).toArray,.int .i64 (0:Nat)] w λe h=>e=.returned (.tuple #[])/\∃g,h=w.alloc g:=by generalize (bV (gS c 0)).toArray=i;go_enter Tryz.func215,Tryz.ntmps215;go_wp2;refine aF (v:=.tuple #[]) (by simp[results,Tryz.results215,go_sem]) rfl ⟨rfl,_,rfl⟩
theorem Dv(J:Rd B f r m l d a w p s b)(e g i j q c:Nat)(R:2<=c)(S:c<=4)(K:33<=e/\e<=117)(L:33<=g/\g<=117)(M:33<=(if c<=2 then 117 else i)/\(if c<=2 then 117 else i)<=117)(h3:33<=(if c<=3 then 117 else j)/\(if c<=3 then 117 else j)<=117)
  (h:Nat) (N:qI [e,g,if c<=2 then 117 else i,if c<=3 then 117 else j,117] 0=h) (hm:h<=4294967295) (z:a<b.length+(c-1)) :
  Calls Tryz.prog 215 #[.pointer (some ⟨f,0,none⟩),.agg (bV [e,g,i,j,q]).toArray,.int .i64 c] w λo A=>o=gU 6/\gD 5 B [f] w A:=by
 have I:=gv (Fr e g i j q c R S);have H:Hid (∀x:World,Calls Tryz.prog 217 #[.agg (bV [e,g,if c<=2 then 117 else i,if c<=3 then 117 else j,117]).toArray] x λo A=>o=.returned (.agg #[.int .u8 (h/16777216:Nat),.int .u8 (h/65536%256:Nat),.int .u8 (h/256%256:Nat),.int .u8 (h%256:Nat)])/\Below x.heap.size x A):=λx=>BG e g _ _ 117 K L M h3 (by omega) h N hm x;clear K L M h3 N;generalize G:[e,g,if c<=2 then 117 else i,if c<=3 then 117 else j,117]=D at *;have al:D.length=5:=by rw[<-G];rfl
 have HR:=gv G;have O:(w.alloc (.cells (bV [e,g,i,j,q]).toArray 184)).heap[w.heap.size]?=some (.cells (bV [e,g,i,j,q]).toArray 184 (0,0)):=jd _ _;have h5:[e,g,i,j,q].length=5:=rfl;generalize [e,g,i,j,q]=X at *;clear G;have a1:((c:Int)==0)=false:=by simp;omega
 have a0:(1:Int)<c:=by omega
 go_enter Tryz.func215,Tryz.ntmps215;go_wp2_with (go_at_call 163;refine(qL _).mono ?_;rintro o A ⟨rfl,rfl⟩);go_loopw [6] (λy wr=>∃(k:Nat) (n:List Nat),c<=k/\k<=5/\y=.int .i64 k/\n.length=5/\Hid (rJ n (5-k) k=D)/\wr.heap[w.heap.size]?=some (.cells (bV n).toArray 184 (0,0))/\Below w.heap.size w wr) (λy _=>5-(intOf y).toNat)
 case atStart=>exact⟨c,X,af _,by omega,rfl,h5,I,O,(aj _ _).alloc (af _) _⟩
 clear O I
 case round =>
  obtain⟨k,n,k1,k2,rfl,F,C,t,bl⟩:=hrel;by_cases hk:k<5
  ·obtain⟨V,hx⟩:∃V,wr.cell? ⟨w.heap.size,k,none⟩=some V:=by rw[cb t];exact⟨_,aW (by simp[bV,F];omega)⟩
   have fx:wr.frozen? ⟨w.heap.size,k,none⟩=false:=nP t;have ao:(k:Int)<5:=by omega
   have Y:Hid ((wr.setCell ⟨w.heap.size,k,none⟩ (.int .u8 117)).heap[w.heap.size]?=some (.cells (bV (n.set k 117)).toArray 184 (0,0))):=by unfold Hid;rw[lq _ t];exact cq (λW=>some (Obj.cells W 184 (0,0))) (wk n k 117)
   have u:=gv bl;clear t bl;go_wp2;go_roundw
   case rel=>refine⟨k+1,n.set k 117,by omega,by omega,by go_num,by rw[eF];exact F,?_,Y.o,u.o.setCell (af _) _⟩;have:=C.o;rw[show 5-k=(5-(k+1))+1 by omega,rJ]at this;exact this
   case measure=>simp[intOf];omega
  ·obtain rfl:k=5:=by omega
   obtain rfl:n=D:=C.o;have P:Hid (wr.rangeAt w.heap.size 0 (bV n)):=by intro a3 a5 hj;rw[cb t,b_];simpa using hj
   have Q:Hid ((Tryz.prog.info? 184).map (·.size)=some (bV n).length):=by unfold Hid bV;rw[av,F];kernel_rfl
   have u:=gv bl;have T:=bl.size;clear t bl C;go_wp2_with (refine dW rfl 184 (.tmp 4) rfl w.heap.size 0 rfl _ _ P.o dE rfl Q.o ?_);refine(H.o _).mono ?_;rintro o U ⟨rfl,E⟩;have ac:=gv ((J.ofBelow (u.o.trans (E.mono T))));have v:=gv (u.o.trans (E.mono T));clear J u E H P Q;have a2:=rs U.heap.size c R S;have Z:=gv (ze (ac.o.alloc (.cells #[.int .u8 (h/16777216:Nat),.int .u8 (h/65536%256:Nat),.int .u8 (h/256%256:Nat),.int .u8 (h%256:Nat)] 153)) (c-1) (some ⟨U.heap.size,0,none⟩) 4 (by omega) z);go_wp2_with fail;refine Z.o.mono ?_;rintro o w2 ⟨rfl,ad,rfl⟩;exact⟨rfl,rfl,(((gD.refl _ _ _ _).trans ⟨v.o.os,v.o.tape,v.o.output,v.o.size,λy a4 _ z _=>by rw[v.o.block y (ae z)];exact z⟩).alloc _).drewN ad⟩
theorem Dx(k:Rd B f r m l d a w p s b)(e:List Nat)(C:e.length=5)(c:Nat)(G:2<=c)(H:c<=4)(h:∀t,t<c->33<=nth e t/\nth e t<=117)(g:Nat)(n:sZ (nth e 0) (nth e 1) (nth e 2) (nth e 3) c=g)(o:g<=4294967295)(q:a<b.length+(c-1)) :
  Calls Tryz.prog 215 #[.pointer (some ⟨f,0,none⟩),.agg (bV (gS e c)).toArray,.int .i64 c] w λz E=>z=gU 6/\gD 5 B [f] w E:=by
 match e,C with
 | [i,j,y,A,F],_ =>
  have u:=h 0 (by omega);have v:=h 1 (by omega);obtain rfl | rfl | rfl:c=2\/c=3\/c=4:=by omega
  ·exact Dv k i j 0 0 0 2 (by omega) (by omega) u v (by simp) (by simp) g n o q
  ·have x:=h 2 (by omega);exact Dv k i j y 0 0 3 (by omega) (by omega) u v x (by simp) g n o q
  ·have x:=h 2 (by omega);have D:=h 3 (by omega);exact Dv k i j y A 0 4 (by omega) (by omega) u v x D g n o q
theorem CC(z:Rd B f r m l d a w p s b)(c:List Nat)(D:c.length=5)(g:Nat)(hn:2<=g)(a8:g<=4)(hp:p+g+1<d.length)(Z:∀h,h<g->nth d (p+h)=nth c h)(F:∀h,h<g->33<=nth c h/\nth c h<=117)
  (ac:nth d (p+g)=126) (ad:nth d (p+g+1)=62) (I:Nat) (X:sZ (nth c 0) (nth c 1) (nth c 2) (nth c 3) g=I) (hm:I<=4294967295) (ho:a<b.length+(g-1)) :
  Calls Tryz.prog 157 #[.pointer (some ⟨f,0,none⟩)] w λe u=>e=gU 6/\gD 5 B [f] w u:=by
 have Q:=gv Z;have HG:=gv F;have R:=gv ac;have a1:=gv ad;have a3:Hid (∀(C:World) (N:Nat),Rd B f r m l d a C N s b->Calls Tryz.prog 215 #[.pointer (some ⟨f,0,none⟩),.agg (bV (gS c g)).toArray,.int .i64 g] C λe u=>e=gU 6/\gD 5 B [f] C u):=λC N hq=>Dx hq c D g hn a8 F I X hm ho;have bb:=ae z.blk;have bd:=z.cp;have bc:=z.lc;have K:(w.alloc (.cells (bV (gS c 0)).toArray 184 (0,0))).heap[w.heap.size]?=some (.cells (bV (gS c 0)).toArray 184 (0,0)):=jd _ _;have J:(bV (gS c 0)).toArray=#[.int .u8 0,.int .u8 0,.int .u8 0,.int .u8 0,.int .u8 0]:=by rw[xy,D];rfl
 rw[J]at K;have P:=gv K;have O:=gv J;have T:=gv (z.alloc (.cells #[.int .u8 0,.int .u8 0,.int .u8 0,.int .u8 0,.int .u8 0] 184 (0,0)));clear Z F ac ad X hm K J z;go_enter ff,eN;go_wp2;go_loopw [7] (λh wr=>∃k:Nat,k<=g/\h=.int .i64 k/\wr.heap[w.heap.size]?=some (.cells (bV (gS c k)).toArray 184 (0,0))/\Rd B f r m l d a wr (p+k) s b/\gD 5 B [f] w wr) (λh _=>5-(intOf h).toNat)
 case atStart=>exact⟨0,by omega,rfl,by rw[O.o];exact P.o,T.o,(gD.refl _ _ _ _).alloc _⟩
 clear P O T
 case round =>
  obtain⟨k,hk,rfl,E,t,G⟩:=hrel;have bf:(({ data:=#[126,62] }:ByteArray)[0]'(by decide)).toNat=126:=rfl;have bi:(({ data:=#[126,62] }:ByteArray)[1]'(by decide)).toNat=62:=rfl;have ba:=t.hB;have a9:=t.hb;by_cases L:k<g
  ·have F:=HG.o k L;have i:=gv (sM t (by omega) (by rw[Q.o k L];exact zT _ (by omega) (by omega)));rw[Q.o k L]at i;have U:=gv (xx c k (by omega));have a7:(gS c k).length=5:=by rw[sP,D]
   generalize nth c k=q at *;have e1:((q:Int)==126)=false:=by simp;omega
   have e2:((q:Int)==122)=false:=by simp;omega
   have x:=gv E;have y:=gv G;have a6:k<5:=by omega
   clear E G t;go_wp2_with fail;refine i.o.mono ?_;rintro e v ⟨rfl,A,n⟩;have j:=n.block w.heap.size _ (by simp;omega) x.o (Or.inr (by intro V W e;simp at e));obtain⟨al,hx⟩:∃al,v.cell? ⟨w.heap.size,k,none⟩=some al:=by rw[cb j];exact⟨_,aW (by simp[bV,a7];omega)⟩
   have fx:v.frozen? ⟨w.heap.size,k,none⟩=false:=nP j;have a0:Hid ((v.setCell ⟨w.heap.size,k,none⟩ (.int .u8 (q:Nat))).heap[w.heap.size]?=some (.cells (bV (gS c (k+1))).toArray 184 (0,0))):=by unfold Hid;rw[lq _ j,U.o];exact cq (λao=>some (Obj.cells ao 184 (0,0))) (wk (gS c k) k q)
   have H:=gv (A.other (i:=k) j (by decide) (by omega) (by omega) (.int .u8 (q:Nat)));have a2:=gv (gD.setNew (y.o.trans n) (q:=⟨w.heap.size,k,none⟩) (af _) (.int .u8 (q:Nat)));clear A n j x y i U;go_wp2_with (first | (go_at_call 216;refine(zD _ _ _ _ (by omega) (by omega)).mono ?_;rintro e u ⟨rfl,rfl⟩) | (go_at_call 163;refine(qL _).mono ?_;rintro e u ⟨rfl,rfl⟩));go_roundw
   case rel=>exact⟨k+1,by omega,by go_num,a0.o,H.o,a2.o⟩
   case measure=>simp[intOf];omega
  ·obtain rfl:k=g:=by omega
   have i:=gv (sM t (by omega) (by rw[R.o];rfl));rw[R.o]at i;have a6:(k:Int)<5:=by omega
   have x:=gv E;have y:=gv G;clear E G t;go_wp2_with fail;refine i.o.mono ?_;rintro e v ⟨rfl,A,n⟩;have j:=gv (n.block w.heap.size _ (by simp;omega) x.o (Or.inr (by intro V W e;simp at e)));have K1:=gv (y.o.trans n);have S:=gv (tR (w:=v.drew) (A.drewN 1) (by omega));rw[show p+k+1=p+k+1 from rfl,a1.o]at S;clear A n x y i;go_wp2_with fail;go_region_with (first | (go_at_call 214;refine S.o.mono ?_;rintro e w2 ⟨rfl,r2,M⟩) | (go_at_call 163;refine(qL _).mono ?_;rintro e u ⟨rfl,rfl⟩));all_goals (
    have H:=gv r2;have Y:=M.block w.heap.size _ (by simp;omega) (show v.drew.heap[w.heap.size]?=_ from j.o) (Or.inr (by intro V W e;simp at e));have K2:=gv ((K1.o.drew).trans M);have a4:=z7 Y;have a5:Hid ((Tryz.prog.info? 184).map (·.size)=some (bV (gS c k)).length):=by unfold Hid bV;rw[av,sP,D];kernel_rfl
    clear r2 M Y;go_wp2_with (refine dW rfl 184 (.tmp 3) rfl w.heap.size 0 rfl _ _ a4.o dE rfl a5.o ?_);refine(a3.o _ _ H.o).mono ?_;rintro e w3 ⟨rfl,k3⟩;exact⟨rfl,rfl,K2.o.trans k3⟩)
theorem GS(y:Rd B f r m l d a w p s b)(hp:p+1<d.length)(F:nth d p=126)(G:nth d (p+1)=62) :
  Calls Tryz.prog 157 #[.pointer (some ⟨f,0,none⟩)] w λe o=>e=.returned (.bool false)/\∃a8,Rd B f r m l d a o (p+2) a8 b/\gD 5 B [f] w o:=by
 obtain⟨h,z⟩:∃h:Nat,h=0:=⟨0,rfl⟩;obtain⟨c,J,Z,L⟩:∃c:List Nat,c.length=5/\(∀g,g<h->nth d (p+g)=nth c g)/\(∀g,g<h->33<=nth c g/\nth c g<=117):=⟨[0,0,0,0,0],rfl,λg hi=>by omega,λg hi=>by omega⟩;have bf:h<=4:=by omega
 have F:nth d (p+h)=126:=by rw[z];exact F
 have G:nth d (p+h+1)=62:=by rw[z];exact G
 have R:=gv Z;have HG:=gv L;have S:=gv F;have ao:=gv G;have a2:Hid (∀(D:World) (O:Nat),Rd B f r m l d a D O s b->Calls Tryz.prog 215 #[.pointer (some ⟨f,0,none⟩),.agg (bV (gS c h)).toArray,.int .i64 h] D λe o=>e=.returned (.tuple #[])/\∃a7,o=D.alloc a7):=λD O hq=>by rw[z];exact JS _
 have a1:=gv z;have hp:p+h+1<d.length:=by omega
 clear z;have bb:=ae y.blk;have bd:=y.cp;have bc:=y.lc;have K:(w.alloc (.cells (bV (gS c 0)).toArray 184 (0,0))).heap[w.heap.size]?=some (.cells (bV (gS c 0)).toArray 184 (0,0)):=jd _ _;have I:(bV (gS c 0)).toArray=#[.int .u8 0,.int .u8 0,.int .u8 0,.int .u8 0,.int .u8 0]:=by rw[xy,J];rfl
 rw[I]at K;have Q:=gv K;have P:=gv I;have U:=gv (y.alloc (.cells #[.int .u8 0,.int .u8 0,.int .u8 0,.int .u8 0,.int .u8 0] 184 (0,0)));clear Z L F G K I y;go_enter ff,eN;go_wp2;go_loopw [7] (λg wr=>∃k:Nat,k<=h/\g=.int .i64 k/\wr.heap[w.heap.size]?=some (.cells (bV (gS c k)).toArray 184 (0,0))/\Rd B f r m l d a wr (p+k) s b/\gD 5 B [f] w wr) (λg _=>5-(intOf g).toNat)
 case atStart=>exact⟨0,by omega,rfl,by rw[P.o];exact Q.o,U.o,(gD.refl _ _ _ _).alloc _⟩
 clear Q P U
 case round =>
  obtain⟨k,hk,rfl,E,t,H⟩:=hrel;have bi:(({ data:=#[126,62] }:ByteArray)[0]'(by decide)).toNat=126:=rfl;have bm:(({ data:=#[126,62] }:ByteArray)[1]'(by decide)).toNat=62:=rfl;have ba:=t.hB;have a9:=t.hb;by_cases M:k<h
  ·have L:=HG.o k M;have i:=gv (sM t (by omega) (by rw[R.o k M];exact zT _ (by omega) (by omega)));rw[R.o k M]at i;have V:=gv (xx c k (by omega));have a6:(gS c k).length=5:=by rw[sP,J]
   generalize nth c k=q at *;have e1:((q:Int)==126)=false:=by simp;omega
   have e2:((q:Int)==122)=false:=by simp;omega
   have v:=gv E;have x:=gv H;have a5:k<5:=by omega
   clear E H t;go_wp2_with fail;refine i.o.mono ?_;rintro e u ⟨rfl,A,n⟩;have j:=n.block w.heap.size _ (by simp;omega) v.o (Or.inr (by intro W X e;simp at e));obtain⟨ac,hx⟩:∃ac,u.cell? ⟨w.heap.size,k,none⟩=some ac:=by rw[cb j];exact⟨_,aW (by simp[bV,a6];omega)⟩
   have fx:u.frozen? ⟨w.heap.size,k,none⟩=false:=nP j;have al:Hid ((u.setCell ⟨w.heap.size,k,none⟩ (.int .u8 (q:Nat))).heap[w.heap.size]?=some (.cells (bV (gS c (k+1))).toArray 184 (0,0))):=by unfold Hid;rw[lq _ j,V.o];exact cq (λad=>some (Obj.cells ad 184 (0,0))) (wk (gS c k) k q)
   have C:=gv (A.other (i:=k) j (by decide) (by omega) (by omega) (.int .u8 (q:Nat)));have a0:=gv (gD.setNew (x.o.trans n) (q:=⟨w.heap.size,k,none⟩) (af _) (.int .u8 (q:Nat)));clear A n j v x i V;go_wp2_with (first | (go_at_call 216;refine(zD _ _ _ _ (by omega) (by omega)).mono ?_;rintro e o ⟨rfl,rfl⟩) | (go_at_call 163;refine(qL _).mono ?_;rintro e o ⟨rfl,rfl⟩));go_roundw
   case rel=>exact⟨k+1,by omega,by go_num,al.o,C.o,a0.o⟩
   case measure=>simp[intOf];omega
  ·obtain rfl:k=h:=by omega
   have i:=gv (sM t (by omega) (by rw[S.o];rfl));rw[S.o]at i;have a5:(k:Int)<5:=by omega
   have v:=gv E;have x:=gv H;clear E H t;go_wp2_with fail;refine i.o.mono ?_;rintro e u ⟨rfl,A,n⟩;have j:=gv (n.block w.heap.size _ (by simp;omega) v.o (Or.inr (by intro W X e;simp at e)));have K1:=gv (x.o.trans n);have T:=gv (tR (w:=u.drew) (A.drewN 1) (by omega));rw[show p+k+1=p+k+1 from rfl,ao.o]at T;clear A n v x i;go_wp2_with fail;go_region_with (first | (go_at_call 214;refine T.o.mono ?_;rintro e w2 ⟨rfl,r2,N⟩) | (go_at_call 163;refine(qL _).mono ?_;rintro e o ⟨rfl,rfl⟩));all_goals (
    have C:=gv r2;have Y:=N.block w.heap.size _ (by simp;omega) (show u.drew.heap[w.heap.size]?=_ from j.o) (Or.inr (by intro W X e;simp at e));have K2:=gv ((K1.o.drew).trans N);have a3:=z7 Y;have a4:Hid ((Tryz.prog.info? 184).map (·.size)=some (bV (gS c k)).length):=by unfold Hid bV;rw[av,sP,J];kernel_rfl
    clear r2 N Y;go_wp2_with (refine dW rfl 184 (.tmp 3) rfl w.heap.size 0 rfl _ _ a3.o dE rfl a4.o ?_);refine(a2.o _ _ C.o).mono ?_;rintro e w3 ⟨rfl,o3,rfl⟩;go_wp2;go_ret;exact⟨rfl,s,by have h0:=a1.o;subst h0;exact C.o.alloc o3,K2.o.alloc o3⟩)
theorem EL(D:Rd B f r m l d a w p s b)(c:List Nat)(R:c.length=5)(h:Nat)(a5:h<=4)(hp:p+h+1=d.length)(S:∀e,e<h->nth d (p+e)=nth c e)(I:∀e,e<h->33<=nth c e/\nth c e<=117)
  (T:nth d (p+h)=126) :
  Calls Tryz.prog 157 #[.pointer (some ⟨f,0,none⟩)] w λg K=>g=gU 5/\gD 5 B [f] w K:=by
 have N:=gv S;have X:=gv I;have O:=gv T;have a2:=ae D.blk;have a4:=D.cp;have a3:=D.lc;have H:(w.alloc (.cells (bV (gS c 0)).toArray 184 (0,0))).heap[w.heap.size]?=some (.cells (bV (gS c 0)).toArray 184 (0,0)):=jd _ _;have G:(bV (gS c 0)).toArray=#[.int .u8 0,.int .u8 0,.int .u8 0,.int .u8 0,.int .u8 0]:=by rw[xy,R];rfl
 rw[G]at H;have M:=gv H;have L:=gv G;have P:=gv (D.alloc (.cells #[.int .u8 0,.int .u8 0,.int .u8 0,.int .u8 0,.int .u8 0] 184 (0,0)));clear S I T H G D;go_enter ff,eN;go_wp2;go_loopw [7] (λe wr=>∃k:Nat,k<=h/\e=.int .i64 k/\wr.heap[w.heap.size]?=some (.cells (bV (gS c k)).toArray 184 (0,0))/\Rd B f r m l d a wr (p+k) s b/\gD 5 B [f] w wr) (λe _=>5-(intOf e).toNat)
 case atStart=>exact⟨0,by omega,rfl,by rw[L.o];exact M.o,P.o,(gD.refl _ _ _ _).alloc _⟩
 clear M L P
 case round =>
  obtain⟨k,hk,rfl,E,x,F⟩:=hrel;have a6:(({ data:=#[126,62] }:ByteArray)[0]'(by decide)).toNat=126:=rfl;have a7:(({ data:=#[126,62] }:ByteArray)[1]'(by decide)).toNat=62:=rfl;have a1:=x.hB;have a0:=x.hb;by_cases J:k<h
  ·have I:=X.o k J;have i:=gv (sM x (by omega) (by rw[N.o k J];exact zT _ (by omega) (by omega)));rw[N.o k J]at i;have Q:=gv (xx c k (by omega));have ao:(gS c k).length=5:=by rw[sP,R]
   generalize nth c k=t at *;have e1:((t:Int)==126)=false:=by simp;omega
   have e2:((t:Int)==122)=false:=by simp;omega
   have A:=gv E;have C:=gv F;have al:k<5:=by omega
   clear E F x;go_wp2_with fail;refine i.o.mono ?_;rintro g z ⟨rfl,y,n⟩;have v:=n.block w.heap.size _ (by simp;omega) A.o (Or.inr (by intro ad fz g;simp at g));obtain⟨U,hx⟩:∃U,z.cell? ⟨w.heap.size,k,none⟩=some U:=by rw[cb v];exact⟨_,aW (by simp[bV,ao];omega)⟩
   have fx:z.frozen? ⟨w.heap.size,k,none⟩=false:=nP v;have W:Hid ((z.setCell ⟨w.heap.size,k,none⟩ (.int .u8 (t:Nat))).heap[w.heap.size]?=some (.cells (bV (gS c (k+1))).toArray 184 (0,0))):=by unfold Hid;rw[lq _ v,Q.o];exact cq (λV=>some (Obj.cells V 184 (0,0))) (wk (gS c k) k t)
   have ac:=gv (y.other (i:=k) v (by decide) (by omega) (by omega) (.int .u8 (t:Nat)));have Y:=gv (gD.setNew (C.o.trans n) (q:=⟨w.heap.size,k,none⟩) (af _) (.int .u8 (t:Nat)));clear y n v A C i Q;go_wp2_with (first | (go_at_call 216;refine(zD _ _ _ _ (by omega) (by omega)).mono ?_;rintro g K ⟨rfl,rfl⟩) | (go_at_call 163;refine(qL _).mono ?_;rintro g K ⟨rfl,rfl⟩));go_roundw
   case rel=>exact⟨k+1,by omega,by go_num,W.o,ac.o,Y.o⟩
   case measure=>simp[intOf];omega
  ·obtain rfl:k=h:=by omega
   have i:=gv (sM x (by omega) (by rw[O.o];rfl));rw[O.o]at i;have al:(k:Int)<5:=by omega
   have A:=gv E;have C:=gv F;clear E F x;go_wp2_with fail;refine i.o.mono ?_;rintro g z ⟨rfl,y,n⟩;have v:=gv (n.block w.heap.size _ (by simp;omega) A.o (Or.inr (by intro ad fz g;simp at g)));have K1:=gv (C.o.trans n);rw[hp]at y;have Z:=gv (Ds (w:=z.drew) (y.drewN 1));clear y n A C i;go_wp2_with fail;refine p7 (λ_ _=>True) (by kernel_rfl) ?_;intro j;have u:(λ(_:Array Bool) (_:World)=>True) (Array.replicate 5 false) z.drew:=trivial;refine ti 0 ?_ j u ?_;clear j u;intro j u;(try simp only[iU])
   refine ti 2 ?_ j u ?_;clear j u;intro j u;(try simp only[iU])
   refine on 1 j λK' hK=>?_;go_simp;refine Z.o.mono ?_;rintro g w2 ⟨rfl,k2⟩;exact⟨rfl,rfl,(K1.o.drew).trans k2⟩
end
end Go.Proofs.YtgkljcmjnphpeaaGreatDoor
