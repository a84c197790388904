import Derived.Test.YtgkljcmjnphpeaaGreatDoorK21
set_option linter.unusedVariables false
set_option linter.unusedSimpArgs false
set_option maxHeartbeats 1000000
namespace Go.Proofs.YtgkljcmjnphpeaaGreatDoor
open Go.RowKit
theorem yh{a:Nat}(g:a<256)(b:List Nat):jW ((48+a/64)::(48+a/8%8)::(48+a%8)::b)=some ([a],b):=by
 have c:oH ((48+a/64)::(48+a/8%8)::(48+a%8)::b)=true:=by simp[oH];omega
 have d:oH ((48+a/8%8)::(48+a%8)::b)=true:=by simp[oH];omega
 have h3:oH ((48+a%8)::b)=true:=by simp[oH];omega
 have e:iG ((48+a/64)::(48+a/8%8)::(48+a%8)::b)=none:=by unfold iG;rw[kA (by omega),kA (by omega),kA (by omega)];rfl
 have f:kp ((48+a/64)::(48+a/8%8)::(48+a%8)::b)=(a,b):=by unfold kp;rw[kF,aA c,List.tail_cons,kF,aA d,List.tail_cons,kF,aA h3,List.tail_cons,kF];simp only[List.headD_cons];congr 1;omega
 unfold jW;rw[e];simp only[];rw[aA c,f];simp only[];rw[aA (by omega)]
theorem vp{b d:Nat}{a c e:List Nat}(g:jW a=some (c,e)):iJ (b+1) d (92::a)=(iJ b d e).map λf=>(c++f.1,f.2):=by rw[iJ.eq_def];simp only[];rw[show iG (92::a)=none by unfold iG;rw[kA (by decide),kA (by decide),kA (by decide)];rfl];simp only[];rw[aA trivial,g]
theorem uP:∀a,a<16->iQ (rV a)=some a/\lM (rV a)=false/\rV a≠62/\rV a≠60:=by decide
theorem Bq{k:Nat}{a b c:List Nat}(e:lZ a=some (b,c)):gI (k+1) (40::a)=some (hJ (VT k) 5 0 0 b,c):=by unfold gI;rw[jz (by decide) (by decide),kA (by decide),kA (by decide),kA (by decide),show gH [40] (40::a)=some a from nu [40] a];show(lZ a).map (λd=>(hJ (VT k) 5 0 0 d.1,d.2))=_;rw[e];rfl
theorem Bp{k:Nat}{a b c:List Nat}(e:ke a=some (b,c)):gI (k+1) (47::a)=some (hJ (VT k) 4 0 0 b,c):=by unfold gI;rw[jz (by decide) (by decide),kA (by decide),kA (by decide),kA (by decide),kA (by decide),show gH [47] (47::a)=some a from nu [47] a];show(ke a).map (λd=>(hJ (VT k) 4 0 0 d.1,d.2))=_;rw[e];rfl
theorem uM{f:Type}(b:f->List Nat)(c:Nat)(e:∀d,c<=(b d).length):∀a:List f,c*a.length<=(a.flatMap b).length
 | []=>af _
 |d::a=>by have:=uM b c e a;have:=e d;rw[cH,ab,ag,Nat.mul_add];omega
def gy(a:List Nat):Prop:=∀b∈a,b<256
theorem gy.lit{c:List Nat}(b:(c.all λa=>decide (a<256))=true):gy c:=λa d=>by rw[dF]at b;simpa using b a d
theorem gy.app{a b:List Nat}(d:gy a)(e:gy b):gy (a++b):=λc f=>(bH.1 f).elim (d c) (e c)
theorem gy.dig(a:Nat):gy (iP a):=λc b=>by have:=(oD a).2 c b;omega
theorem gy.flatMap{d:Type}{f:d->List Nat}{c:List d}(e:∀b∈c,gy (f b)):gy (c.flatMap f):=λh a=>by obtain⟨b,g,a⟩:=List.mem_flatMap.1 a;exact e b g h a
section
variable{w a:World}
theorem Hx(b:List Nat)(i:∀l∈b,l<256)(m:b.length<=1000000)(w:World):∃c d,b.length<=c/\c<=9223372036854775807/\(convert 9 23 (.string (gC b))).run Tryz.prog w=.ok (.slice (some ⟨w.heap.size,0,none⟩) b.length c) d/\Below w.heap.size w d/\nA d d.heap.size (some ⟨w.heap.size,0,none⟩) b/\w.heap.size<d.heap.size:=by have g:=run_bytes_of_string (P:= Tryz.prog) w 9 23 5 (gC b) cN aq dH;have f:=grownCap_ge w (gC b).size 0 5;have h:=fY w (gC b).size 0 5 (by rw[um];unfold maxLen;omega);generalize grownCap w (gC b).size 0 5=c at *;rw[um]at g f;refine⟨c,_,f,h,g,(aj _ _).drew.alloc (af _) _,?_,by simp⟩;intro k e;refine⟨w.heap.size,0,rfl,by simp,?_⟩;have j:(w.drew.alloc (.cells (bytesRow (gC b) c) 5 ((bytesRow (gC b) c).size,(bytesRow (gC b) c).size+1))).heap[w.heap.size]?=some (.cells (bytesRow (gC b) c) 5 ((bytesRow (gC b) c).size,(bytesRow (gC b) c).size+1)):=jd w.drew _;rw[b_,cb j];unfold bytesRow;rw[Array.getElem?_append_left (by simp[gC];exact e)];simp[gC,nth,ai e];have:=i b[k] (df e);omega
theorem Fc{B:Nat}{ao:Option Addr}{xs:List Nat}{cap:Nat}(c:nA w B ao xs):(convert 23 9 (.slice ao xs.length cap)).run Tryz.prog w=.ok (.string (gC xs)) w:=by
 rcases dK xs.length with d | d
 ·have h:xs=[]:=cU.1 d;subst h;exact ce ao cap w
 ·obtain⟨b,j,rfl,_,_⟩:=c 0 d;refine zo ⟨b,j,none⟩ cap xs (λi g=>?_);obtain⟨k,l,f,_,e⟩:=c i g;cases f;unfold Addr.add;split;·next c=>subst c;simpa using e
  ·exact e
end
theorem Gl{k:IntKind}{a b:Int}(c:a=b):Ending.returned (.int k a)=.returned (.int k b):=by rw[c]
theorem JX(b:Int)(q : -9223372036854775808<=b)(s:b<=9223372036854775807)(a:Nat)(m:0<a)(v:a<=4294967296)(k:World):Calls Tryz.prog 27 #[.int .i64 b,.int .i64 a] k λf p=>∃r:Nat,r<a/\f=.returned (.int .i64 r)/\p=k:=by
 have g:∀c:Int,0<=c->c<=9223372036854775807->∃r:Nat,r<a/\Int.tmod c a=r/\c%a=r:=by
  intro c l t;obtain⟨n,rfl⟩:=Int.eq_ofNat_of_zero_le l;refine⟨n%a,Nat.mod_lt _ m,?_,?_⟩;·rw[fE (by omega)];rfl
  ·rfl
 by_cases u:b<0
 ·obtain⟨r,h,d,e⟩:=g (-(b+1)) (by omega) (by omega);have i:=gv d;have j:=gv e;clear g d e;go_enter Tryz.func27,Tryz.ntmps27;go_wp2;go_ret;have f:=i.o;rw[Int.neg_tmod]at f;exact⟨r,h,Gl f,rfl⟩
 ·obtain⟨r,h,d,e⟩:=g b (by omega) (by omega);have i:=gv d;have j:=gv e;clear g d e;go_enter Tryz.func27,Tryz.ntmps27;go_wp2;go_ret;exact⟨r,h,Gl j.o,rfl⟩
section
structure Bi(B br bf bd off cap:Nat)(d:List Nat)(most:Nat)(j:List Value)(w:World)(p m left f:Nat)(s:Value)(q:List Nat):Prop where
 rd:Rd B br bd off cap d most w p s q
 hbf:B<=bf
 blk:w.heap[bf]?=some (.cells (Value.pointer (some ⟨br,0,none⟩)::.int .u8 m::.int .i64 left::.int .i64 f::j).toArray 167 (0,0))
 hh:m<256
 hl:left<=8
variable{B br bf bd off cap:Nat}{d:List Nat}{most:Nat}{j:List Value}{w:World}{p m left f:Nat}{s:Value}{q:List Nat}
def bL(d:List Nat)(p m left:Nat):List Bool:=gw left m++gJ (d.drop p)
theorem Bi.c0(a:Bi B br bf bd off cap d most j w p m left f s q):w.cell? ⟨bf,0,none⟩=some (.pointer (some ⟨br,0,none⟩)):=by rw[cb a.blk];simp
theorem Bi.c1(a:Bi B br bf bd off cap d most j w p m left f s q):w.cell? ⟨bf,1,none⟩=some (.int .u8 m):=by rw[cb a.blk];simp
theorem Bi.c2(a:Bi B br bf bd off cap d most j w p m left f s q):w.cell? ⟨bf,2,none⟩=some (.int .i64 left):=by rw[cb a.blk];simp
theorem Bi.c3(a:Bi B br bf bd off cap d most j w p m left f s q):w.cell? ⟨bf,3,none⟩=some (.int .i64 f):=by rw[cb a.blk];simp
theorem Bi.fz(a:Bi B br bf bd off cap d most j w p m left f s q)(i:Nat):w.frozen? ⟨bf,i,none⟩=false:=nP a.blk
theorem Bi.ne(a:Bi B br bf bd off cap d most j w p m left f s q):bf≠br:=by intro c;have b:=a.blk;rw[c,a.rd.blk]at b;simp at b
theorem Bi.drewN(a:Bi B br bf bd off cap d most j w p m left f s q)(n:Nat):Bi B br bf bd off cap d most j (w.drewN n) p m left f s q:=⟨a.rd.drewN n,a.hbf,a.blk,a.hh,a.hl⟩
theorem Rd.setOther{w:World}{p:Nat}{s:Value}{q:List Nat}(a:Rd B br bd off cap d most w p s q){b:Addr}(i:Value)(k:B<=b.block)(e:b.block≠br)(h3:s.ownBlock≠some b.block):Rd B br bd off cap d most (w.setCell b i) p s q:=by
 have l:=a.hB;refine⟨a.hB,a.hb,?_,?_,?_,a.byt,a.cp,a.lc,a.lm,a.lo,a.lp⟩;·rw[dB _ _ _ _ (λc=>e c.symm)];exact a.blk
 ·intro h g;rw[cn _ (by show b.block≠bd;omega)];exact a.dat h g
 ·exact aR a.own h3 _
theorem Bi.own_ne(a:Bi B br bf bd off cap d most j w p m left f s q):s.ownBlock≠some bf:=Go.own_ne a.rd.own a.blk (by decide)
theorem Bi.set1(a:Bi B br bf bd off cap d most j w p m left f s q)(b:Nat)(c:b<256):Bi B br bf bd off cap d most j (w.setCell ⟨bf,1,none⟩ (.int .u8 b)) p b left f s q:=by refine⟨a.rd.setOther _ a.hbf a.ne a.own_ne,a.hbf,?_,c,a.hl⟩;rw[lq _ a.blk];simp
theorem Bi.set2(a:Bi B br bf bd off cap d most j w p m left f s q)(b:Nat)(c:b<=8):Bi B br bf bd off cap d most j (w.setCell ⟨bf,2,none⟩ (.int .i64 b)) p m b f s q:=by refine⟨a.rd.setOther _ a.hbf a.ne a.own_ne,a.hbf,?_,a.hh,c⟩;rw[lq _ a.blk];simp
theorem Bi.rdKept(a:Bi B br bf bd off cap d most j w p m left f s q){b:World}{g:Nat}{e:Value}{c:List Nat}(r:Rd B br bd off cap d most b g e c)(k:gD 5 B [br] w b):Bi B br bf bd off cap d most j b g m left f e c :=
 ⟨r,a.hbf,k.block bf _ (by simp[a.ne]) a.blk (Or.inr (by intro i l h;simp at h)),a.hh,a.hl⟩
theorem Al(a:Nat)(b:a<256):bits .and .u8 (a:Int) 1=((a%2:Nat):Int):=by have:=u8_and_nat a 1 b (by omega);rw[nat_mask1]at this;exact this
theorem bh(a:Bi B br bf bd off cap d most j w p m left f s q)(t:0<left) :
  Calls Tryz.prog 220 #[.pointer (some ⟨bf,0,none⟩)] w λe b=>e=.returned (.int .i64 (m%2:Nat))/\Bi B br bf bd off cap d most j b p (m/2) (left-1) f s q/\gD 5 B [br,bf] w b:=by
 have k:=a.c1;have l:=a.c2;have n:=a.fz 1;have o:=a.fz 2;have c:=a.hh;have i:=a.hl;have e1:((left:Int)==0)=false:=by simp;omega
 have r:=Al m c;go_enter Tryz.func220,Tryz.ntmps220;go_wp2;go_ret;have g:((m:Int)/2)=((m/2:Nat):Int):=by omega
 have h:((left:Int)-1)=((left-1:Nat):Int):=by omega
 rw[g,h];exact⟨rfl,(a.set1 (m/2) (by omega)).set2 (left-1) (by omega),((gD.refl _ _ _ _).setCell (by simp) _).setCell (by simp) _⟩
theorem Hk(a:Bi B br bf bd off cap d most j w p m 0 f s q)(g:p<d.length) :
  Calls Tryz.prog 220 #[.pointer (some ⟨bf,0,none⟩)] w λe i=>e=.returned (.int .i64 (nth d p%2:Nat))/\Bi B br bf bd off cap d most j i (p+1) (nth d p/2) 7 f s q/\gD 5 B [br,bf] w i:=by
 have n:=a.c0;have o:=a.c2;have c:=a.rd.byt p g;have x:=Al (nth d p) c;go_enter Tryz.func220,Tryz.ntmps220;go_wp2_with (go_at_call 214;refine(tR a.rd g).mono ?_;rintro e y ⟨rfl,l,h⟩;have b:=a.rdKept l h;have r:=b.c1;have t:=b.c2;have u:=b.fz 1;have v:=b.fz 2);go_ret;have k:((nth d p:Int)/2)=((nth d p/2:Nat):Int):=by omega
 rw[k];exact⟨rfl,(((b.set1 _ c).set2 8 (by omega)).set1 (nth d p/2) (by omega)).set2 7 (by omega),(((((h.mono (by simp)).setCell (by simp) _).setCell (by simp) _).setCell (by simp) _).setCell (by simp) _)⟩
def Fl(B br bf bd off cap:Nat)(d:List Nat)(most:Nat)(j:List Value)(w:World)(a:List Bool)(f:Nat)(s:Value)(q:List Nat):Prop:=
 ∃p m left,Bi B br bf bd off cap d most j w p m left f s q/\left<8/\bL d p m left=a
theorem Hc(d:List Nat)(p:Nat)(a:p<d.length):gJ (d.drop p)=gw 8 (nth d p)++gJ (d.drop (p+1)):=by
 have:nth d p=d[p]:=by simp[nth,a]
 rw[bU a,lk,this,rQ]
theorem zQ{b:Bool}{t:List Bool}(a:Fl B br bf bd off cap d most j w (b::t) f s q) :
  Calls Tryz.prog 220 #[.pointer (some ⟨bf,0,none⟩)] w λh e=>h=.returned (.int .i64 (b.toNat:Nat))/\Fl B br bf bd off cap d most j e t f s q/\gD 5 B [br,bf] w e:=by
 obtain⟨p,m,left,l,x,c⟩:=a;have u:∀g:Nat,(g%2==1)=b->g%2=b.toNat:=by intro g o;rcases fG g with a | a<;>rw[a]at o<;>rw[a]<;>subst o<;>rfl
 by_cases v:0<left
 ·obtain⟨i,rfl⟩:∃i,left=i+1:=⟨left-1,by omega⟩;simp only[bL,gw,cj,List.cons.injEq]at c;refine(bh l v).mono ?_;rintro h e ⟨rfl,r,k⟩;exact⟨by rw[u m c.1],⟨p,m/2,i,r,by omega,c.2⟩,k⟩
 ·obtain rfl:left=0:=by omega
  have n:p<d.length:=by
   rcases bZ p d.length with a | a;·exact a
   ·rw[bL,List.drop_eq_nil_of_le a]at c;simp[gw,gJ]at c
  rw[bL,Hc d p n]at c;simp only[gw,cC,cj,List.cons.injEq]at c;refine(Hk l n).mono ?_;rintro h e ⟨rfl,r,k⟩;exact⟨by rw[u _ c.1],⟨p+1,nth d p/2,7,r,by omega,c.2⟩,k⟩
theorem Fl.drewN{a:List Bool}(b:Fl B br bf bd off cap d most j w a f s q)(n:Nat):Fl B br bf bd off cap d most j (w.drewN n) a f s q:=by obtain⟨p,m,left,c,e,g⟩:=b;exact⟨p,m,left,c.drewN n,e,g⟩
theorem Fl.alloc{c:List Bool}(e:Fl B br bf bd off cap d most j w c f s q)(b:Obj):Fl B br bf bd off cap d most j (w.alloc b) c f s q:=by obtain⟨p,m,left,a,g,h⟩:=e;exact⟨p,m,left,⟨a.rd.alloc b,a.hbf,l9 _ a.blk,a.hh,a.hl⟩,g,h⟩
theorem Fl.lt{c:List Bool}(b:Fl B br bf bd off cap d most j w c f s q):B<=br/\B<=bf/\br<w.heap.size/\bf<w.heap.size:=by obtain⟨p,m,left,a,e,g⟩:=b;exact⟨a.rd.hb,a.hbf,ae a.rd.blk,ae a.blk⟩
theorem Fl.drew{a:List Bool}(b:Fl B br bf bd off cap d most j w a f s q):Fl B br bf bd off cap d most j w.drew a f s q:=b.drewN 1
theorem yV(c a:Nat)(b:Bool)(g:c<2^a)(k:a<62):bits .or .i64 (c:Int) (wrap64 ((b.toNat:Int)*2^a))=((c+b.toNat*2^a:Nat):Int):=by
 have h:2^a<=2^61:=cy (by omega) (by omega);have i:b.toNat*2^a<=1*2^a:=cM _ (by cases b<;>decide);have e:((b.toNat:Int)*2^a)=((b.toNat*2^a:Nat):Int):=by rw[fi,Int.natCast_pow];rfl
 rw[e,GL _ (by omega),FO _ _ (by omega) (by omega),A7 _ _ _ g]
theorem LF(a:List Bool)(b:Bool):kP (a++[b])=kP a+b.toNat*2^a.length:=by
 induction a with
 |nil=>simp[kP]
 |cons c a ih=>simp only[cj,kP,ih,ag,dG];rw[Nat.mul_add,cL];congr 2;rw[dT 2,eM]
theorem E5(b:Nat)(G:b<=16){a:List Bool}(H:b<=a.length)(t:Fl B br bf bd off cap d most j w a f s q) :
  Calls Tryz.prog 221 #[.pointer (some ⟨bf,0,none⟩),.int .i64 b] w λh n=>h=.returned (.int .i64 (kP (a.take b)))/\Fl B br bf bd off cap d most j n (a.drop b) f s q/\gD 5 B [br,bf] w n:=by
 go_enter Tryz.func221,Tryz.ntmps221;go_wp2;go_loopw [5,8] (λA g wr=>∃k:Nat,k<=b/\g=.int .i64 k/\A=.int .i64 (kP (a.take k))/\Fl B br bf bd off cap d most j wr (a.drop k) f s q/\gD 5 B [br,bf] w wr) (λ_ g _=>b-(intOf g).toNat)
 case atStart=>exact⟨0,aE _,rfl,rfl,t,gD.refl _ _ _ _⟩
 case round =>
  obtain⟨k,E,rfl,rfl,c,l⟩:=hrel;have i:=qv (a.take k);rw[ax,dx (by omega)]at i;by_cases F:k<b
  ·have e:=LF (a.take k) a[k];rw[ax,dx (by omega),<-bX (by omega)]at e;have r:=gv e;clear e;rw[bU (by omega)]at c;have y:=gv (yV (kP (a.take k)) k a[k] i (by omega));generalize u:kP (a.take k)=C at *;generalize v:a[k]=D at *;clear u v;go_wp2_with fail;refine(zQ c).mono ?_;rintro h I ⟨rfl,x,z⟩;go_wp2;go_roundw
   case rel=>exact⟨k+1,by omega,by go_num,by rw[y.o,r.o],x,l.trans z⟩
   case measure=>simp[intOf];omega
  ·obtain rfl:k=b:=by omega
   go_wp2;go_ret;exact⟨rfl,c,l⟩
theorem BJ{a:List Bool}(h:Fl B br bf bd off cap d most j w a f s q) :
  Calls Tryz.prog 162 #[.pointer (some ⟨bf,0,none⟩)] w λg e=>g=.returned (.tuple #[])/\(∃p m,Bi B br bf bd off cap d most j e p m 0 f s q/\gJ (d.drop p)=a.drop (a.length%8))/\gD 5 B [br,bf] w e:=by
 obtain⟨p,m,left,b,n,c⟩:=h;have k:=b.c2;have l:=b.fz 2;have i:a.length%8=left:=by rw[<-c,bL,ab,gN,gM];omega
 go_enter Tryz.func162,Tryz.ntmps162;go_wp2
 go_end0
 refine⟨rfl,⟨p,m,b.set2 0 (by omega),?_⟩,(gD.refl _ _ _ _).setCell (by simp) _⟩;rw[i,<-c,bL,ed (gN _ _)]
end
section
variable{B A t C y u:Nat}{d:List Nat}{q:Nat}{n:List Value}{w:World}{p E left j:Nat}{D:Value}{z:List Nat}
def Cd(w:World)(c f:Nat)(h b:List Nat):Prop:=
 (∀a,a<16->w.cell? ⟨c,f+a,none⟩=some (.int .i64 (nth h a:Nat))) /\
 ∃e g,w.cell? ⟨c,f+16,none⟩=some (.slice (some ⟨e,0,none⟩) b.length g)/\∀a,a<b.length->w.cell? ⟨e,a,none⟩=some (.int .i64 (nth b a:Nat))
def mZ(a:List Nat):Nat->Nat
 |0=>0
 |k+1=>mZ a k+nth a (k+1)
theorem Gj(c:List Nat)(a b:Nat)(f:a<=b):mZ c a<=mZ c b:=by
 induction b with
 |zero =>
  have:a=0:=by omega
  rw[this];exact af _
 |succ b ih =>
  rcases bZ a (b+1)with e | e;·have:=ih (by omega);simp only[mZ];omega
  ·have:a=b+1:=by omega
   rw[this];exact af _
theorem JK(a:Nat)(b:Bool)(f:a<2^60):bits .or .i64 ((a:Int)*2) (b.toNat:Nat)=((2*a+b.toNat:Nat):Int):=by
 have e:b.toNat<=1:=by cases b<;>decide
 have c:((a:Int)*2)=((2*a:Nat):Int):=by omega
 rw[c,FO _ _ (by omega) (by omega)];have:=A7 b.toNat a 1 (by omega);rw[Nat.or_comm,show 2*a=a*2^1 by omega,this];omega
theorem zr(N W:Nat)(a e:List Nat)(ba:mZ a 15<=e.length)(a9:e.length<=1000){i:Nat}{K l:List Bool}
  (hC:∀f r,Fl B A t C y u d q n f r j D z->gD 5 B [A,t] w f->Cd f N W a e)
  (x:kj a e K=some (i,l)) (ad:Fl B A t C y u d q n w K j D z) :
  Calls Tryz.prog 313 #[.pointer (some ⟨t,0,none⟩),.pointer (some ⟨N,W,none⟩)] w λP f=>P=.returned (.int .i64 i)/\Fl B A t C y u d q n f l j D z/\gD 5 B [A,t] w f:=by
 go_enter Tryz.func313,Tryz.ntmps313;go_wp2;go_loopw [5,6,7,8] (λO ac pl I wr=>∃(k code first:Nat) (r:List Bool),k<=15/\I=.int .i64 (k+1:Nat)/\O=.int .i64 code/\ac=.int .i64 first/\pl=.int .i64 (mZ a k)/\first<=code/\code<2^k/\Hid (kr a e (15-k) (k+1) code first (mZ a k) r=some (i,l))/\Fl B A t C y u d q n wr r j D z/\gD 5 B [A,t] w wr) (λ_ _ _ I _=>16-(intOf I).toNat)
 case atStart=>exact⟨0,0,0,K,by omega,rfl,rfl,rfl,rfl,by omega,by omega,x,ad,gD.refl _ _ _ _⟩
 case round =>
  obtain⟨k,code,first,r,hk,rfl,rfl,rfl,rfl,a3,a2,h,hf,H⟩:=hrel;by_cases a5:k<15
  ·obtain⟨J,U⟩:∃J,15-k=J+1:=⟨14-k,by omega⟩;cases r with
   |nil=>have c:=h.o;rw[U]at c;simp[kr]at c
   |cons b r =>
    have a6:=Gj a (k+1) 15 (by omega);have v:mZ a (k+1)=mZ a k+nth a (k+1):=rfl;have ht:2^k<=2^14:=cy (by omega) (by omega);have hb:b.toNat<=1:=by cases b<;>decide
    have ho:=JK code b (by omega);have a8:2^(k+1)=2*2^k:=by rw[dG];omega
    generalize Q:nth a (k+1)=g at *;have L:=gv Q;clear Q;generalize al:mZ a k=m at *;generalize R:mZ a (k+1)=Z at *;have M:=gv R;clear al R;go_wp2_with fail;refine(zQ hf).mono ?_;rintro P w1 ⟨rfl,s,G⟩;obtain⟨S,a1,O,a4,F⟩:=hC w1 r s (H.trans G);have ao:=S (k+1) (by omega);rw[L.o]at ao;clear S;have c:=h.o;rw[U]at c;simp only[kr]at c;rw[show a.getD (k+1) 0=g from L.o]at c;by_cases T:2*code+b.toNat<2*first+g
    ·rw[aA T]at c;simp only[Option.some.injEq,Prod.mk.injEq]at c;obtain⟨V,rfl⟩:=c;have a0:=F (m+(2*code+b.toNat)-first*2) (by omega);rw[show nth e (m+(2*code+b.toNat)-first*2)=i by rw[<-V,nth,dT first 2]]at a0;clear V F h x;go_wp2;go_ret;exact⟨rfl,s,H.trans G⟩
    ·rw[au T]at c;have X:Hid (kr a e (15-(k+1)) (k+1+1) (2*code+b.toNat) (2*first+g) Z r=some (i,l)):=by rw[v,show 15-(k+1)=J by omega];exact c
     have Y:=gv v;have a7:m+g<=1000:=by omega
     clear c F h x v;go_wp2;go_roundw
     case rel =>
      refine⟨k+1,2*code+b.toNat,2*first+g,r,by omega,by go_num,by go_num,by go_num,?_,by omega,by omega,?_,s,H.trans G⟩;·rw[M.o];have:=Y.o;subst this;go_num
      ·rw[M.o];exact X
     case measure=>simp[intOf];omega
  ·have c:=h.o;rw[show 15-k=0 by omega]at c;simp[kr]at c
theorem ri{k:IntKind}{a b:Int}(c:a=b):Ending.returned (.int k a)=.returned (.int k b):=by rw[c]
def sV(a:Nat × Nat):Value:=.agg #[.int .i64 (a.1:Nat),.int .i64 (a.2:Nat)]
theorem Jk:∀a:Fin 286,265<=a.val->a.val≠285->wrap64 (3+wrap64 ((4+((a.val:Int)-257)%4)*2^((a.val-257)/4-1)))=((gL a.val).1:Nat)/\((a.val:Int)-257)/4-1=((gL a.val).2:Nat):=by decide +kernel
theorem Cf(a:Nat)(o:257<=a)(r:a<=285)(w:World):Calls Tryz.prog 267 #[.int .i64 a] w λh k=>h=.returned (sV (gL a))/\∃i,k=w.alloc i:=by
 by_cases b:a=285
 ·subst b;go_enter Tryz.func267,Tryz.ntmps267;go_wp2;refine aF (v:=sV (gL 285)) (by simp[results,Tryz.results267,go_sem,sV,gL]) rfl ⟨rfl,?_⟩;exact⟨_,rfl⟩
 have e1:((a:Int)==285)=false:=by simp;omega
 by_cases f:a-257<8
 ·have g:(a:Int)-257<8:=by omega
  go_enter Tryz.func267,Tryz.ntmps267;go_wp2;refine aF (v:=sV (gL a)) ?_ rfl ⟨rfl,?_⟩;·simp[results,Tryz.results267,go_sem,sV,gL,b,f];omega
  ·exact⟨_,rfl⟩
 ·have g:¬ (a:Int)-257<8:=by omega
  have l:0<=((a:Int)-257)/4-1:=by omega
  have m:((a:Int)-257)/4-1<6:=by omega
  go_enter Tryz.func267,Tryz.ntmps267;go_wp2;obtain⟨c,e⟩:=Jk ⟨a,by omega⟩ (by show 265<=a;omega) b;simp only[]at c e;refine aF (v:=sV (gL a)) ?_ rfl ⟨rfl,?_⟩;·simp[results,Tryz.results267,go_sem,sV,c,e]
  ·exact⟨_,rfl⟩
theorem Iz:∀a:Fin 30,4<=a.val->wrap64 (1+wrap64 ((2+(a.val:Int)%2)*2^(a.val/2-1)))=((gE a.val).1:Nat)/\(a.val:Int)/2-1=((gE a.val).2:Nat):=by decide +kernel
theorem BP(a:Nat)(m:a<=29)(w:World):Calls Tryz.prog 269 #[.int .i64 a] w λg i=>g=.returned (sV (gE a))/\∃h,i=w.alloc h:=by
 by_cases e:a<4
 ·have f:(a:Int)<4:=by omega
  go_enter Tryz.func269,Tryz.ntmps269;go_wp2;refine aF (v:=sV (gE a)) ?_ rfl ⟨rfl,?_⟩;·simp[results,Tryz.results269,go_sem,sV,gE,e]
  ·exact⟨_,rfl⟩
 ·have f:¬ (a:Int)<4:=by omega
  have k:0<=(a:Int)/2-1:=by omega
  have l:(a:Int)/2-1<14:=by omega
  go_enter Tryz.func269,Tryz.ntmps269;go_wp2;obtain⟨b,c⟩:=Iz ⟨a,by omega⟩ (by show 4<=a;omega);simp only[]at b c;refine aF (v:=sV (gE a)) ?_ rfl ⟨rfl,?_⟩;·simp[results,Tryz.results269,go_sem,sV,b,c]
  ·exact⟨_,rfl⟩
theorem Cx(a:Nat × Nat)(r:a.2<=15)(H:a.1<=100000){b:List Bool}(h:a.2<=b.length)(f:Fl B A t C y u d q n w b j D z) :
  Calls Tryz.prog 314 #[.pointer (some ⟨t,0,none⟩),sV a] w λc k=>c=.returned (.int .i64 (a.1+kP (b.take a.2):Nat))/\Fl B A t C y u d q n k (b.drop a.2) j D z/\gD 5 B [A,t] w k:=by
 unfold sV;obtain⟨I,J,K,L⟩:=f.lt;have i:=qv (b.take a.2);rw[ax,dx h]at i;have o:2^a.2<=2^15:=cy (by omega) r;have G:kP (b.take a.2)<32768:=by omega
 clear i o;go_enter Tryz.func314,Tryz.ntmps314;go_wp2_with fail;go_region_with (go_at_call 221;refine(E5 a.2 (by omega) h ((f.alloc (.cells #[.int .i64 (a.1:Nat),.int .i64 (a.2:Nat)] 247)).drew)).mono ?_;rintro c v ⟨rfl,m,e⟩;have g:=e.block w.heap.size _ (by simp;omega) (show(w.alloc (.cells #[.int .i64 (a.1:Nat),.int .i64 (a.2:Nat)] 247)).drew.heap[w.heap.size]?=_ from jd _ _) (Or.inr (by intro x F c;simp at c));have l:v.cell? ⟨w.heap.size,0,none⟩=some (.int .i64 (a.1:Nat)):=(cb g));all_goals (have s:=(((gD.refl 5 B [A,t] w).alloc (.cells #[.int .i64 (a.1:Nat),.int .i64 (a.2:Nat)] 247)).drew).trans e;clear e g l)
 all_goals go_wp2
 all_goals go_ret
 all_goals exact⟨ri (by first | (rw[bP];omega) | omega),m,s⟩
end
end Go.Proofs.YtgkljcmjnphpeaaGreatDoor
