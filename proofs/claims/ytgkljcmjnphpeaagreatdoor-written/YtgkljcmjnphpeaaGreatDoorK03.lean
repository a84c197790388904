import Derived.Test.YtgkljcmjnphpeaaGreatDoorK02
set_option linter.unusedVariables false
set_option linter.unusedSimpArgs false
set_option maxHeartbeats 2000000
set_option maxRecDepth 100000
namespace Go.Proofs.YtgkljcmjnphpeaaGreatDoor
open Go.RowKit
section
variable{B bs f:Nat}{z:Option Addr}{d:List Nat}{g u y:Value}{w w':World}{r q:List Nat}
theorem ce(a:Option Addr)(c:Nat)(b:World):(convert 23 9 (.slice a 0 c)).run Tryz.prog b=.ok (.string { data:=#[] }) b:=by
 cases a with
 |none=>rw[fS b 23 9 5 none 0 c aq dH cN];rfl
 |some a=>exact zo a c [] (λh e=>by cases e)
def qB(w:World)(B:Nat)(a:List Nat)(i:Value):Prop:=∃b h c,i=.slice (some ⟨b,h,none⟩) a.length c/\b<B/\a.length<=c/\c<=9223372036854775807/\∀e,e<a.length->w.cell? ⟨b,h+e,none⟩=some (.int .u8 (nth a e:Nat))
theorem Sc.taken(j:Sc B bs z f d g u y w r)(b:Nat)(D:b<=r.length){c i:Nat}(t:z=some ⟨c,i,none⟩)(m:c<B)(l:World)(s:∀k,k<B->l.heap[k]?=w.heap[k]?) :
  qB l B (r.take b) (.slice (if f=d.length-r.length then some ⟨c,i,none⟩else some ⟨c,i+(d.length-r.length),none⟩) b (f-(d.length-r.length))):=by
 have h:(r.take b).length=b:=by rw[ax];omega
 have C:=j.le;have A:=j.lc;have v:∀a,a<b->l.cell? ⟨c,i+(d.length-r.length)+a,none⟩=some (.int .u8 (Go.Proofs.YtgkljcmjnphpeaaGreatDoor.nth (r.take b) a:Nat)):=λa e=>by
  obtain⟨x,E,e1,e2,o⟩:=j.dat (d.length-r.length+a) (by omega);rw[t]at e1;cases e1;rw[World.cell?_of_block (w:=w) (s _ e2)];have p:Go.Proofs.YtgkljcmjnphpeaaGreatDoor.nth (r.take b) a=Go.Proofs.YtgkljcmjnphpeaaGreatDoor.nth d (d.length-r.length+a):=by rw[<-j.nthOf a (by omega)];unfold Go.Proofs.YtgkljcmjnphpeaaGreatDoor.nth;rw[bI,bI,cF e]
  rw[p,cL];exact o
 by_cases n:f=d.length-r.length
 ·rw[aA n];refine⟨c,i,f-(d.length-r.length),by rw[h],m,by rw[h];omega,by omega,λa e=>?_⟩;rw[h]at e;omega
 ·rw[au n];refine⟨c,i+(d.length-r.length),f-(d.length-r.length),by rw[h],m,by rw[h];omega,by omega,λa e=>?_⟩;rw[h]at e;exact v a e
theorem zk(b:Sc B bs z f d g u y w r)(a:Nat)(s:a<=r.length) :
  Calls Tryz.prog 257 #[.pointer (some ⟨bs,0,none⟩),.int .i64 a] w λc w'=>∃v,c=.returned v/\qB w' B (r.take a) v/\Sc B bs z f d g u y w' (r.drop a)/\gQ bs w w':=by
 have j:=gv b;obtain⟨m,n,rfl,x⟩:=b.ad;have C:=b.c0;have D:=b.c1;have E:=b.fz 1;have I:=b.hb;have M:=b.le;have N:=b.len;obtain⟨L,J⟩:=b.lc;have o:Hid (∀h,Sc B bs (some ⟨m,n,none⟩) f d g u y ((w.drewN h).setCell ⟨bs,1,none⟩ (.int .i64 (d.length-r.length+a:Nat))) (r.drop a)):=λh=>(j.o.drewN h).set _ a rfl s _ rfl;have l:Hid (∀h,qB ((w.drewN h).setCell ⟨bs,1,none⟩ (.int .i64 (d.length-r.length+a:Nat))) B (r.take a) (.slice (if f=d.length-r.length then some ⟨m,n,none⟩else some ⟨m,n+(d.length-r.length),none⟩) a (f-(d.length-r.length)))):=λh=>j.o.taken a s rfl x _ (λk K=>jL _ (by omega));clear b;have t:(a:Int)<=(r.length:Int):=by omega
 have O:d.length-r.length+a<=d.length:=by omega
 generalize d.length-r.length=e at *;have P:IntKind.i64.wrap ((e:Int)+(a:Int))=((e+a:Nat):Int):=by rw[bP];omega
 have F:(0:Int)<=(e:Int)+(a:Int):=by omega
 have G:(e:Int)+(a:Int)<=(f:Int):=by omega
 have H:((e:Int)+(a:Int)).toNat=e+a:=by omega
 by_cases p:f=e
 ·subst p;simp only[if_true,dU]at l;go_enter Tryz.func257,Tryz.ntmps257;go_wp2_with fail;refine(vY j.o).mono ?_;rintro c i ⟨rfl,A,rfl⟩;go_wp2_with fail;refine(pG _ _ _ _ (by omega) t).mono ?_;rintro c i ⟨rfl,rfl⟩;go_wp2_with fail;refine(oq _).mono ?_;rintro c i ⟨rfl,rfl⟩;go_wp2_with fail;go_quiet (fail);go_wp2;go_ret;exact⟨_,rfl,l.o _,o.o _,((gQ.refl _ _).drewN _).setCell _ _⟩
 ·simp only[au p]at l;go_enter Tryz.func257,Tryz.ntmps257;go_wp2_with fail;refine(vY j.o).mono ?_;rintro c i ⟨rfl,A,rfl⟩;go_wp2_with fail;refine(pG _ _ _ _ (by omega) t).mono ?_;rintro c i ⟨rfl,rfl⟩;go_wp2_with fail;refine(oq _).mono ?_;rintro c i ⟨rfl,rfl⟩;go_wp2_with fail;go_quiet (fail);go_wp2;go_ret;exact⟨_,rfl,l.o _,o.o _,((gQ.refl _ _).drewN _).setCell _ _⟩
theorem Ei(c:Sc B bs z f d g u y w r)(b:Int)(i:b<0\/(r.length:Int)<b) :
  Calls Tryz.prog 257 #[.pointer (some ⟨bs,0,none⟩),.int .i64 b] w λa w'=>a=gU 4/\∃j,w'=w.drewN j:=by
 have h:=gv (vY c);clear c;go_enter Tryz.func257,Tryz.ntmps257;go_wp2_with fail;refine h.o.mono ?_;rintro a e ⟨rfl,k,rfl⟩;go_wp2_with fail;refine(sF _ _ _ _ i).mono ?_;rintro a e ⟨rfl,rfl⟩;go_wp2_with fail;refine(sn _).mono ?_;rintro a e ⟨rfl,rfl⟩;exact⟨rfl,rfl,k,rfl⟩
theorem zj{b:Nat}{k:List Nat}(c:Sc B bs z f d g u y w (b::k)) :
  Calls Tryz.prog 304 #[.pointer (some ⟨bs,0,none⟩)] w λa w'=>a=.returned (.int .u8 (b:Nat))/\Sc B bs z f d g u y w' k/\gQ bs w w':=by
 have m:=gv (zk c 1 (by simp));clear c;go_enter Tryz.func304,Tryz.ntmps304;go_wp2_with fail;refine m.o.mono ?_;rintro a v ⟨t,rfl,⟨o,s,p,rfl,_,_,_,i⟩,h,j⟩;have e:=i 0 (by simp);simp only[List.take_succ_cons,List.take_zero,ag,aw]at e ⊢;rw[show nth [b] 0=b from rfl,fI]at e;have l:=gv h;have n:=gv j;clear i h j;go_wp2;go_ret;exact⟨rfl,l.o,n.o⟩
theorem Bg(c:Sc B bs z f d g u y w []) :
  Calls Tryz.prog 304 #[.pointer (some ⟨bs,0,none⟩)] w λb w'=>b=gU 4/\∃a,w'=w.drewN a:=by
 have e:=gv (Ei c 1 (Or.inr (by simp)));clear c;go_enter Tryz.func304,Tryz.ntmps304;go_wp2_with fail;refine e.o.mono ?_;rintro b h ⟨rfl,a,rfl⟩;exact⟨rfl,rfl,a,rfl⟩
theorem im(a:Int)(w:World):Calls Tryz.prog 319 #[.int .u8 a] w λb w'=>b=.returned (.bool (a==40||a==41||a==60||a==62||a==91||a==93||a==123||a==125||a==47||a==37))/\w'=w:=by go_enter Tryz.func319,Tryz.ntmps319;go_wp2;all_goals (go_ret;exact⟨by simp[*],rfl⟩)
theorem Jw(a:Nat)(w:World):Calls Tryz.prog 319 #[.int .u8 a] w λb w'=>b=.returned (.bool (rK a))/\w'=w:=by
 have b:((a:Int)==40||(a:Int)==41||(a:Int)==60||(a:Int)==62||(a:Int)==91||(a:Int)==93||(a:Int)==123||(a:Int)==125||(a:Int)==47||(a:Int)==37)=rK a:=by rw[aZ];simp[rK];omega
 have:=im a w;rw[b]at this;exact this
theorem Gg(a:Nat)(w:World):Calls Tryz.prog 291 #[.int .u8 a] w λb w'=>b=.returned (.bool (pB a))/\w'=w:=by
 have e:=gv (Bw a);have c:=gv (Jw a);unfold pB;cases i:lM a<;>cases h:rK a<;>rw[i]at e<;>rw[h]at c;all_goals (
  go_enter Tryz.func291,Tryz.ntmps291;go_wp2_with (first | (go_at_call 250;refine(e.o _).mono ?_;rintro b w' ⟨rfl,rfl⟩) | (go_at_call 319;refine(c.o _).mono ?_;rintro b w' ⟨rfl,rfl⟩));go_ret;exact⟨rfl,rfl⟩)
def pH:List Nat->Bool
 | []=>false
 |b::_=>pB b
theorem Gq(a:Sc B bs z f d g u y w r) :
  Calls Tryz.prog 306 #[.pointer (some ⟨bs,0,none⟩)] w λh w'=>h=.returned (.bool (pH r))/\∃i,w'=w.drewN i:=by
 have c:=gv a;cases r with
 |nil =>
  have k:decide ((0:Int)<(([]:List Nat).length:Int))=false:=by simp
  clear a;go_enter Tryz.func306,Tryz.ntmps306;go_wp2_with fail;go_quiet ((go_at_call 190;exact fD (vY (c.o.drewN _))));go_wp2;go_ret;exact⟨rfl,nq,rfl⟩
 |cons b e =>
  obtain⟨x,_,o,l,C,rfl,p,s⟩:=a.cons;have m:=a.c0;have n:=a.c1;have v:=a.len;have t:=a.lc;have k:decide ((0:Int)<((b::e).length:Int))=true:=by simp only[ag,cQ];omega
  clear a;generalize d.length-(b::e).length=j at *;have A:(j:Int)<(d.length:Int):=by omega
  go_enter Tryz.func306,Tryz.ntmps306;go_wp2_with fail;go_quiet (first | (go_at_call 190;exact fD (vY (c.o.drewN _))) | (go_at_call 291;exact cZ (Gg b _)));go_wp2;go_ret;exact⟨rfl,nq,rfl⟩
structure nB(r:List Nat)(k:Nat)(q:List Nat):Prop where
 dr:r.drop k=q
 le:k<=r.length
 tw:r.takeWhile pB=r.take k++q.takeWhile pB
 dw:r.dropWhile pB=q.dropWhile pB
theorem nB.start(r:List Nat):nB r 0 r:=⟨rfl,aE _,rfl,rfl⟩
theorem nB.on{k b:Nat}{c:List Nat}(h:nB r k (b::c))(e:pB b=true):nB r (k+1) c:=by
 obtain⟨a,l,h3,i⟩:=h;have j:(r.drop k).length=c.length+1:=by rw[a];rfl
 rw[aU]at j;refine⟨by rw[<-eA,a];rfl,by omega,?_,by rw[i,cE,e];rfl⟩;rw[h3,eg,e];simp only[if_true];rw[cP,show r[k]?=some b by rw[<-List.head?_drop,a];rfl];simp
theorem nB.stop{k:Nat}(c:nB r k q)(e:pH q=false):r.takeWhile pB=r.take k/\r.dropWhile pB=q:=by
 obtain⟨i,j,h3,a⟩:=c;cases q with
 |nil=>rw[h3,a];simp
 |cons b l=>have h:pB b=false:=e;rw[h3,a,eg,cE,h];simp
theorem nA.str{a e p n:Nat}(m:nA w B (some ⟨a,e,none⟩) d)(h:Nat)(s:p+n<=d.length)(c:Nat) :
  (convert 23 9 (.slice (some ⟨a,e+p,none⟩) n h)).run Tryz.prog (w.drewN c)=.ok (.string (gC ((d.drop p).take n))) (w.drewN c):=by
 have j:((d.drop p).take n).length=n:=by rw[ax,aU];omega
 have:=zo (w:=w.drewN c) ⟨a,e+p,none⟩ h ((d.drop p).take n) (λb i=>by
  rw[j]at i;obtain⟨o,t,e1,e2,k⟩:=m (p+b) (by omega);cases e1;have l:nth ((d.drop p).take n) b=nth d (p+b):=by unfold nth;rw[bI,bI,cF i,dC]
  rw[l,ap,cL];exact k)
 rw[j]at this;exact this
theorem Eg(h:Sc B bs z f d g u y w r) :
  Calls Tryz.prog 258 #[.pointer (some ⟨bs,0,none⟩)] w λs w'=>s=.returned (.string (gC (r.takeWhile pB)))/\Sc B bs z f d g u y w' (r.dropWhile pB)/\gQ bs w w':=by
 have F:=gv h;have p:=h.c1;have a2:=h.le;have a3:=h.len;obtain⟨a1,a0⟩:=h.lc;obtain⟨J,R,rfl,al⟩:=h.ad;clear h;obtain⟨a,C⟩:∃a,d.length-r.length=a:=⟨_,rfl⟩;rw[C]at p;have m:=gv C;clear C;go_enter Tryz.func258,Tryz.ntmps258;go_wp2;clear p;go_loopw [8] (λ_ wr=>∃(k:Nat) (q:List Nat),Hid (nB r k q)/\Sc B bs (some ⟨J,R,none⟩) f d g u y wr q/\Hid (gQ bs w wr)) (λ_ wr=>d.length-posS bs wr)
 case atStart=>exact⟨0,r,nB.start r,F.o,gQ.refl _ _⟩
 case round =>
  obtain⟨k,q,o,O,v⟩:=hrel;have e:=gv O;clear O;have D:q.length=r.length-k/\k<=r.length:=⟨by rw[<-o.o.dr,aU],o.o.le⟩;have G:=gv e.o.posS;have x:d.length-q.length=a+k:=by have:=m.o;omega
  have j:=gv (Gq e.o);have W:=e.o.c0;have p:=e.o.c1;have X:=e.o.fz 1;rw[x]at p;cases i:pH q
  ·rw[i]at j;have P:=o.o.stop i;have l:=gv P;have S:=gv e.o.dat;have N:a+k<=d.length:=by have:=m.o;omega
   have Q:d.drop a=r:=by rw[<-m.o];exact F.o.suf
   clear P i G m D x;rcases dK k with K | K
   ·subst K;have ao:=ce;rw[fI]at p;by_cases L:f=a
    ·subst L;go_wp2_with fail;refine j.o.mono ?_;rintro s E ⟨rfl,c,rfl⟩;go_wp2_with fail;go_quiet (fail);go_wp2;go_ret;exact⟨by rw[l.o.1];rfl,by rw[l.o.2];exact(e.o.drewN _).drewN _,(v.o.drewN _).drewN _⟩
    ·go_wp2_with fail;refine j.o.mono ?_;rintro s E ⟨rfl,c,rfl⟩;go_wp2_with fail;go_quiet (fail);go_wp2;go_ret;exact⟨by rw[l.o.1];rfl,by rw[l.o.2];exact(e.o.drewN _).drewN _,(v.o.drewN _).drewN _⟩
   ·have L:¬ f=a:=by omega
    have Y:(0:Int)<=(a:Int)+(k:Int):=by omega
    have Z:(a:Int)+(k:Int)<=(f:Int):=by omega
    have ac:((a:Int)+(k:Int)).toNat=a+k:=by omega
    have M:=λc=>S.o.str (p:=a) (n:=k) (f-a) N c;rw[Q]at M;clear Q;obtain⟨I,A⟩:∃I,gC (r.take k)=I:=⟨_,rfl⟩;rw[A]at M;have U:=gv A;clear A;go_wp2_with fail;refine j.o.mono ?_;rintro s E ⟨rfl,c,rfl⟩;go_wp2_with fail;go_quiet (fail);go_wp2;go_ret;exact⟨by rw[l.o.1,U.o];rfl,by rw[l.o.2];exact(e.o.drewN _).drewN _,(v.o.drewN _).drewN _⟩
  ·rw[i]at j;cases q with
   |nil=>cases i
   |cons b t =>
    have V:=gv (o.o.on i);have H:Hid (∀c,Sc B bs (some ⟨J,R,none⟩) f d g u y ((wr.drewN c).setCell ⟨bs,1,none⟩ (.int .i64 (a+k+1:Nat))) t):=λc=>(e.o.drewN c).set t 1 rfl (by simp) _ (by rw[x]);have T:Hid (d.length-(d.length-t.length)<d.length-(d.length-(b::t).length)):=by have:=e.o.le;unfold Hid;simp only[ag]at this ⊢;omega
    have N:a+k<d.length:=by have:=m.o;simp only[ag]at D;omega
    clear i D x o;go_wp2_with fail;refine j.o.mono ?_;rintro s E ⟨rfl,c,rfl⟩;go_wp2;go_roundw
    case rel=>exact⟨k+1,t,V,H.o c,(v.o.drewN c).setCell _ _⟩
    case measure=>have e1:=(H.o c).posS;rw[G.o];exact dD (Nat.le_of_eq (by rw[<-e1];rfl)) T.o
theorem GD(c:Sc B bs z f d g u y w r) :
  Calls Tryz.prog 251 #[.pointer (some ⟨bs,0,none⟩)] w λa w'=>a=.returned (.string (gC (iA r)))/\Sc B bs z f d g u y w' (iZ r)/\gQ bs w w':=by
 have b:=gv (Cu c);clear c;go_enter Tryz.func251,Tryz.ntmps251;go_wp2_with fail;refine b.o.mono ?_;rintro a m ⟨rfl,e,h⟩;have i:=gv (Eg e);have j:=gv h;clear e h b;go_wp2_with fail;refine i.o.mono ?_;rintro a n ⟨rfl,k,l⟩;go_wp2;go_ret;exact⟨rfl,k,j.o.trans l⟩
theorem wP(c:Sc B bs z f d g u y w r)(a:ByteArray)(l:0<a.size)(n:a.size<=1000000) :
  Calls Tryz.prog 196 #[.pointer (some ⟨bs,0,none⟩),.string a] w (Aj B bs z f d g u y w (gG r) (gH (bl a) (gG r))):=by
 have b:=gv (Cu c);clear c;go_enter Tryz.func196,Tryz.ntmps196;go_wp2_with fail;refine b.o.mono ?_;rintro k s ⟨rfl,e,h⟩;have i:=gv (tY e a l n);have j:=gv h;clear e h b;go_wp2_with fail;refine i.o.mono ?_;rintro k t ⟨rfl,m,p⟩;go_wp2;go_ret;exact⟨rfl,m,j.o.trans p⟩
theorem DW{c:List Nat}(e:∀h∈c,h<256)(a:ByteArray):decide (gC c=a)=decide (c=bl a):=by
 rw[dN];constructor
 ·intro b;exact z_ e (zR a) (b.trans (xG a).symm)
 ·intro b;rw[b,xG]
theorem vm:∀(b:Bool) (r:List Nat),jq b r <:+ r
 |b,[]=>by cases b<;>exact eT _
 |false,a::r=>by
  simp only[jq];split;·exact(vm false r).trans (fH a r)
  ·split;·exact(vm true r).trans (fH a r)
   ·exact eT _
 |true,a::r=>by
  simp only[jq];split;·exact(vm false r).trans (fH a r)
  ·exact(vm true r).trans (fH a r)
theorem Gy(r:List Nat):gG r <:+ r:=vm false r
theorem Eu(r:List Nat):iZ r <:+ r:=(cT pB).trans (Gy r)
theorem GI{r:List Nat}{b:Nat}(a:b∈iA r):b∈r:=by unfold iA at a;exact(Gy r).subset ((eE pB).subset a)
theorem uu(b:Sc B bs z f d g u y w r)(a:ByteArray) :
  Calls Tryz.prog 191 #[.pointer (some ⟨bs,0,none⟩),.string a] w (Aj B bs z f d g u y w r (gF (bl a) r)):=by
 have n:=b.c1;have m:=gv (GD b);have k:Hid (decide (gC (iA r)=a)=decide (iA r=bl a)):=DW (λF D=>b.bytes F (GI D)) a;have I:=b.le;have J:=b.len;have C:=gv b.suf;have p:d.length-r.length<=d.length:=by omega
 clear b;unfold gF;by_cases e:iA r=bl a
 ·have A:(((gC (iA r)).toList==a.toList))=true:=by rw[qF,k.o,cQ];exact e
  rw[aA e];generalize gC (iA r)=v at *;generalize d.length-r.length=i at *;clear e;go_enter Tryz.func191,Tryz.ntmps191;go_wp2_with fail;refine m.o.mono ?_;rintro x E ⟨rfl,c,h⟩;go_wp2;go_ret;exact⟨rfl,c,h⟩
 ·have A:(((gC (iA r)).toList==a.toList))=false:=by rw[qF,k.o,bG];exact e
  rw[au e];generalize gC (iA r)=v at *;obtain⟨i,j⟩:∃i,d.length-r.length=i:=⟨_,rfl⟩;rw[j]at n p;have l:=gv j;clear e j;go_enter Tryz.func191,Tryz.ntmps191;go_wp2_with fail;refine m.o.mono ?_;rintro x E ⟨rfl,c,h⟩;have H:=c.fz 1;have G:=c.c1;have s:=gv c;have t:=gv h;clear c h n;go_wp2;go_ret;refine⟨rfl,?_,t.o.setCell _ _⟩;have:=s.o.at_ i p;rw[<-l.o,C.o,l.o]at this;exact this
theorem Cr(s:Sc B bs z f d g u y w r) :
  Calls Tryz.prog 199 #[.pointer (some ⟨bs,0,none⟩)] w (Aj B bs z f d g u y w r (iG r)):=by
 have b:=gv (tY s { data:=#[13,10] } (by decide) (by decide));rw[show bl { data:=#[13,10] }=[13,10]from rfl]at b;clear s;cases e1:gH [13,10] r with
 |some q =>
  rw[e1]at b;go_enter Tryz.func199,Tryz.ntmps199;go_wp2_with fail;refine b.o.mono ?_;rintro e v ⟨rfl,h,j⟩;go_wp2;go_ret;have a:iG r=some q:=by unfold iG;rw[e1];rfl
  exact⟨by rw[a];rfl,by rw[a];exact h,j⟩
 |none =>
  rw[e1]at b;go_enter Tryz.func199,Tryz.ntmps199;go_wp2_with fail;refine b.o.mono ?_;rintro e v ⟨rfl,h,j⟩;have c:=gv (tY (show Sc B bs z f d g u y v r from h) { data:=#[10] } (by decide) (by decide));rw[bo,show(UInt8.toNat 10)=10 from rfl]at c;have m:=gv j;clear h j b;cases e2:gH [10] r with
  |some q =>
   rw[e2]at c;go_wp2_with fail;refine c.o.mono ?_;rintro e x ⟨rfl,i,k⟩;go_wp2;go_ret;have a:iG r=some q:=by unfold iG;rw[e1,e2];rfl
   exact⟨by rw[a];rfl,by rw[a];exact i,m.o.trans k⟩
  |none =>
   rw[e2]at c;go_wp2_with fail;refine c.o.mono ?_;rintro e x ⟨rfl,i,k⟩;have l:=gv (tY (show Sc B bs z f d g u y x r from i) { data:=#[13] } (by decide) (by decide));rw[bo,show(UInt8.toNat 13)=13 from rfl]at l;have A:=gv (m.o.trans k);clear i k c m;have a:iG r=gH [13] r:=by unfold iG;rw[e1,e2];rfl
   rw[<-a]at l;generalize iG r=C at *;clear e1 e2 a;go_wp2_with fail;refine l.o.mono ?_;rintro e D ⟨rfl,h3,t⟩;have n:=gv h3;have p:=gv (A.o.trans t);clear h3 t;cases C with
   |some q=>go_wp2;go_ret;exact⟨rfl,n.o,p.o⟩
   |none=>go_wp2;go_ret;exact⟨rfl,n.o,p.o⟩
end
section
def g7:Nat->Nat->List Nat->Option (List Nat × List Nat)
 |0,_,[]=>some ([],[])
 |_+1,_,[]=>none
 |0,_,b::r=>if pB b=false then some ([],b::r)else if b<33\/126<b then none else if b=35 then g7 1 0 r else(g7 0 0 r).map λa=>(b::a.1,a.2)
 |1,_,b::r=>match iQ b with
  |none=>none
  |some c=>g7 2 c r
 |_+2,c,b::r=>match iQ b with
  |none=>none
  |some d=>if 16*c+d=0 then none else(g7 0 0 r).map λa=>((16*c+d)::a.1,a.2)
def ke(r:List Nat):Option (List Nat × List Nat):=g7 0 0 r
variable{B bs cap:Nat}{i:Option Addr}{f:List Nat}{p s A:Value}{w w':World}{r q:List Nat}
def kg(B bs:Nat)(i:Option Addr)(cap:Nat)(f:List Nat)(p s A:Value){b:Type}(e:World->b->Value->Prop)(d:Option (b × List Nat))(w:World)(a:Ending)(w':World):Prop:=
 match d with
 |some (c,q)=>∃v,a=.returned v/\e w' c v/\Sc B bs i cap f p s A w' q/\gQ bs w w'
 |none=>a=gU 4/\gQ bs w w'
def tv(_:World)(a:List Nat)(b:Value):Prop:=b=.string (gC a)
structure Bu(C:World)(B bs:Nat)(i:Option Addr)(cap:Nat)(f:List Nat)(p s A:Value)(w:World)(q:List Nat)(D:Value)(d:List Nat):Prop where
 sc:Sc B bs i cap f p s A w q
 own:w.ownsRow C.heap.size 5 1 D d.length (d.map λx:Nat=>.int .u8 (x:Int))
 only:gQ bs C w
 lt:bs<C.heap.size
 few:d.length+q.length<=200000
variable{C:World}{D:Value}{d:List Nat}
theorem ul{b j l e a:Nat}{m:Value}{n:List Value}(u:w.ownsRow a e l m j n)(k:gQ b w w')(y:b<a):w'.ownsRow a e l m j n:=by
 obtain⟨v,c⟩:=u;refine⟨v,?_⟩;rcases c with c | ⟨g,o,t,e1,e2,h,x⟩;·exact Or.inl c
 ·exact Or.inr ⟨g,o,t,e1,e2,by rw[k.block g (ae h) (by omega)];exact h,x⟩
theorem Bu.start(a:Sc B bs i cap f p s A w r):Bu w B bs i cap f p s A w r (.slice none 0 0) []:=
 ⟨a,bk _ _ _ _,gQ.refl _ _,a.lt,by have:=a.le;have:=a.len;simp only[aw];omega⟩
theorem Bu.step(a:Bu C B bs i cap f p s A w q D d){b:List Nat}(c:Sc B bs i cap f p s A w' b)(k:gQ bs w w')(e:b.length<=q.length):Bu C B bs i cap f p s A w' b D d:=
 ⟨c,ul a.own k a.lt,a.only.trans k,a.lt,by have:=a.few;omega⟩
theorem Bu.drewN(a:Bu C B bs i cap f p s A w q D d)(n:Nat):Bu C B bs i cap f p s A (w.drewN n) q D d:=a.step (a.sc.drewN n) ((gQ.refl _ _).drewN n) (af _)
theorem Bu.alloc(b:Bu C B bs i cap f p s A w q D d)(a:Obj):Bu C B bs i cap f p s A (w.alloc a) q D d:=
 b.step (b.sc.other ((aj _ _).alloc (af _) a)) (.of_below ((aj _ _).alloc (af _) a)) (af _)
theorem Bu.sz(a:Bu C B bs i cap f p s A w q D d):C.heap.size<=w.heap.size:=a.only.size
theorem Bu.app(a:Bu C B bs i cap f p s A w q D d){j:Value}{xs:List Nat}{h:Nat}(m:h=d.length+xs.length)(n:w'.ownsRow C.heap.size 5 1 j h ((d.map λg:Nat=>.int .u8 (g:Int))++(xs.map λg:Nat=>.int .u8 (g:Int))))(b:w.grownBy w' D.ownBlock)
  (t:d.length+xs.length+q.length<=200000):Bu C B bs i cap f p s A w' q j (d++xs):=by
 subst m;have e:∀k,k<C.heap.size->w'.heap[k]?=w.heap[k]?:=λk c=>b.block k (by have:=a.sz;omega) (Ck a.own c);have o:=a.sc.hb;have u:=a.lt;refine⟨⟨a.sc.hb,by rw[e _ a.lt];exact a.sc.blk,a.sc.dat.other (λk c=>e k (by omega)),a.sc.byt,a.sc.len,a.sc.lc,a.sc.le,a.sc.suf,a.sc.ad⟩,?_,?_,a.lt,by rw[ab];omega⟩;·rw[ab,aH];exact n
 ·exact⟨b.os.trans a.only.os,b.tape.trans a.only.tape,b.output.trans a.only.output,aD a.sz b.size,λk c l=>(e k c).trans (a.only.block k c l)⟩
theorem Bu.one_news(g:Nat)(c:World):∀b e,([g].map λh:Nat=>Value.int .u8 (h:Int))[b]?=some e->(c.alloc (.cells #[.int .u8 (g:Nat)] 5)).cell? ((⟨c.heap.size,0,none⟩:Addr).add b)=some e:=by
 intro b e a;rw[aa];match b,a with
 |0,a=>exact(cb (jd c _)).trans a
 |b+1,a=>simp at a
theorem DZ(a c:Nat)(w:World)(e:iQ a=some c):Calls Tryz.prog 303 #[.int .u8 a] w λb w'=>b=.returned (.int .u8 c)/\w'=w:=by have g:Hid (iQ a=some c):=e;clear e;go_enter Tryz.func303,Tryz.ntmps303;go_wp2_with (first | (go_at_call 275;refine(Fy _ _ _ g.o).mono ?_;rintro b w' ⟨rfl,rfl⟩) | (go_at_call 99;refine(oq _).mono ?_;rintro b w' ⟨rfl,rfl⟩));go_ret;exact⟨rfl,rfl⟩
theorem DY(a:Nat)(w:World)(c:iQ a=none):Calls Tryz.prog 303 #[.int .u8 a] w λb w'=>b=gU 4/\w'=w:=by have e:Hid (iQ a=none):=c;clear c;go_enter Tryz.func303,Tryz.ntmps303;go_wp2_with fail;refine(C3 _ _ e.o).mono ?_;rintro b w' ⟨g,rfl,rfl⟩;go_wp2_with fail;refine(sn _).mono ?_;rintro b w' ⟨rfl,rfl⟩;exact⟨rfl,rfl,rfl⟩
def iN(a:Nat):Bool:=pB a&&(decide (33<=a)&&decide (a<=126))
theorem C8(a:Nat)(w:World):Calls Tryz.prog 239 #[.int .u8 a] w λc w'=>c=.returned (.bool (iN a))/\w'=w:=by
 have b:=gv (Gg a);have e:=gv (xR (a:Int) 33 126);have e1:(decide ((33:Int)<=(a:Int))&&decide ((a:Int)<=126))=(decide (33<=a)&&decide (a<=126)):=by rw[aZ];simp;omega
 rw[e1]at e;unfold iN;cases g:pB a
 ·rw[g]at b;go_enter Tryz.func239,Tryz.ntmps239;go_wp2_with (go_at_call 291;refine(b.o _).mono ?_;rintro c w' ⟨rfl,rfl⟩);go_ret;exact⟨rfl,rfl⟩
 ·rw[g]at b;generalize (decide (33<=a)&&decide (a<=126))=h at *;go_enter Tryz.func239,Tryz.ntmps239;go_wp2_with (first | (go_at_call 291;refine(b.o _).mono ?_;rintro c w' ⟨rfl,rfl⟩) | (go_at_call 216;refine(e.o _).mono ?_;rintro c w' ⟨rfl,rfl⟩));go_ret;exact⟨by simp,rfl⟩
theorem nameS_end{q:List Nat}(a:pH q=false):g7 0 0 q=some ([],q):=by
 cases q with
 |nil=>rfl
 |cons b e=>have c:pB b=false:=a;simp[g7,c]
theorem nameS_bad{b:Nat}{g:List Nat}(c:pB b=true)(a:iN b=false):g7 0 0 (b::g)=none:=by
 have e:b<33\/126<b:=by unfold iN at a;rw[c]at a;simp at a;omega
 simp[g7,c,e]
theorem nameS_on{b:Nat}{c:List Nat}(a:iN b=true)(g:b≠35):g7 0 0 (b::c)=(g7 0 0 c).map λe=>(b::e.1,e.2):=by
 unfold iN at a;simp at a;have h:¬ (b<33\/126<b):=by omega
 simp[g7,a.1,h,g]
theorem nameS_hash(a:List Nat):g7 0 0 (35::a)=g7 1 0 a:=by simp[g7,show pB 35=true from rfl]
def km(d:List Nat)(b:Option (List Nat × List Nat)):Option (List Nat × List Nat):=b.map λa=>(d++a.1,a.2)
theorem xV(d:List Nat)(c:Nat)(a:Option (List Nat × List Nat)):km d (a.map λb=>(c::b.1,b.2))=km (d++[c]) a:=by
 cases a with
 |none=>rfl
 |some b=>simp[km]
theorem kg.none_{α:Type}{c:World->α->Value->Prop}{a:Option (α × List Nat)}{w w':World}(b:a=none)(k:gQ bs w w'):kg B bs i cap f p s A c a w (gU 4) w':=by subst b;exact⟨rfl,k⟩
theorem kg.some_{b:Type}{e:World->b->Value->Prop}{c:Option (b × List Nat)}{w w':World}{a:b}{q:List Nat}{v:Value}(g:c=some (a,q))(j:e w' a v)(h:Sc B bs i cap f p s A w' q)(k:gQ bs w w'):kg B bs i cap f p s A e c w (.returned v) w':=by subst g;exact⟨v,rfl,j,h,k⟩
theorem GA(S:Sc B bs i cap f p s A w r) :
  Calls Tryz.prog 255 #[.pointer (some ⟨bs,0,none⟩)] w (kg B bs i cap f p s A tv (ke r) w):=by
 obtain⟨i0,hi,ao,a0,a1⟩:=bu Tryz.infoByte;have ad:=gv (Bu.start S);have bd:=S.len;clear S;obtain⟨a,U⟩:∃a,ke r=a:=⟨_,rfl⟩;rw[U];have h:Hid (km [] (g7 0 0 r)=a):=by unfold Hid;rw[<-U];unfold ke km;cases g7 0 0 r<;>simp
 clear U;go_enter Tryz.func255,Tryz.ntmps255;go_wp2;go_loopw [3] (λD wr=>∃(q d:List Nat),Hid (Bu w B bs i cap f p s A wr q D d)/\Hid (km d (g7 0 0 q)=a)) (λ_ wr=>f.length-posS bs wr)
 case atStart=>exact⟨r,[],ad,h⟩
 clear ad h
 case round =>
  obtain⟨q,d,g,h⟩:=hrel;have H:=gv (Gq g.o.sc);have Q:=gv g.o.sc.posS;cases n:pH q
  ·rw[n]at H;have a6:=λt=>Ac (g.o.drewN t).own;have e:Hid (a=some (d,q)):=by unfold Hid;have:=h.o;rw[nameS_end n]at this;rw[<-this];simp[km]
   clear h n Q;obtain⟨al,V⟩:∃al,gC d=al:=⟨_,rfl⟩;rw[V]at a6;have HS:=gv V;clear V;go_wp2_with fail;refine H.o.mono ?_;rintro c w1 ⟨rfl,t,rfl⟩;go_wp2;go_ret;exact kg.some_ e.o (by rw[tv,HS.o];rfl) (g.o.drewN t).sc (g.o.drewN t).only
  ·rw[n]at H;cases q with
   |nil=>cases n
   |cons b u =>
    have bc:b<256:=g.o.sc.bytes b (by simp);have HN:=gv (λt=>zj (g.o.drewN t).sc);have N:=gv (C8 b);go_wp2_with fail;refine H.o.mono ?_;rintro c w1 ⟨rfl,t,rfl⟩;go_wp2_with fail;refine(HN.o t).mono ?_;rintro c w2 ⟨rfl,h2,k2⟩;have l:=gv ((g.o.drewN t).step h2 k2 (by simp));clear h2 k2 HN H;go_wp2_with fail;refine(N.o _).mono ?_;rintro c w' ⟨rfl,rfl⟩;cases K:iN b
    ·have e:Hid (a=none):=by unfold Hid;rw[<-h.o,nameS_bad n K];rfl
     clear N K n;go_wp2_with fail;refine(sn _).mono ?_;rintro c w' ⟨rfl,rfl⟩;exact⟨rfl,kg.none_ e.o l.o.only⟩
    ·go_wp2_with fail;refine(oq _).mono ?_;rintro c w' ⟨rfl,rfl⟩;by_cases T:b=35
     ·subst T;have F:Hid (km d (g7 1 0 u)=a):=by unfold Hid;rw[<-h.o,nameS_hash]
      clear h K n N;cases u with
      |nil =>
       have e:Hid (a=none):=by unfold Hid;rw[<-F.o];rfl
       go_wp2_with fail;refine(Bg l.o.sc).mono ?_;rintro c Y ⟨rfl,m3,rfl⟩;exact⟨rfl,kg.none_ e.o (l.o.only.drewN m3)⟩
      |cons j u =>
       go_wp2_with fail;refine(zj l.o.sc).mono ?_;rintro c Y ⟨rfl,h3,k3⟩;have E:=gv (l.o.step h3 k3 (by simp));clear h3 k3 l;cases y:iQ j with
       |none =>
        have e:Hid (a=none):=by unfold Hid;rw[<-F.o];simp[g7,y,km]
        have x:=gv (DY j Y y);clear y;go_wp2_with fail;refine x.o.mono ?_;rintro c w' ⟨rfl,rfl⟩;exact⟨rfl,kg.none_ e.o E.o.only⟩
       |some m =>
        have O:Hid (km d (g7 2 m u)=a):=by unfold Hid;rw[<-F.o];simp[g7,y]
        have x:=gv (DZ j m Y y);have a4:=yC y;clear y F;go_wp2_with fail;refine x.o.mono ?_;rintro c w' ⟨rfl,rfl⟩;cases u with
        |nil =>
         have e:Hid (a=none):=by unfold Hid;rw[<-O.o];rfl
         go_wp2_with fail;refine(Bg E.o.sc).mono ?_;rintro c Z ⟨rfl,m4,rfl⟩;exact⟨rfl,kg.none_ e.o (E.o.only.drewN m4)⟩
        |cons ac u =>
         go_wp2_with fail;refine(zj E.o.sc).mono ?_;rintro c Z ⟨rfl,h4,k4⟩;have I:=gv (E.o.step h4 k4 (by simp));clear h4 k4 E;cases z:iQ ac with
         |none =>
          have e:Hid (a=none):=by unfold Hid;rw[<-O.o];simp[g7,z,km]
          have x:=gv (DY ac Z z);clear z;go_wp2_with fail;refine x.o.mono ?_;rintro c w' ⟨rfl,rfl⟩;exact⟨rfl,kg.none_ e.o I.o.only⟩
         |some v =>
          have x:=gv (DZ ac v Z z);have a5:=yC z;have R:Hid (km d (if 16*m+v=0 then none else(g7 0 0 u).map λj=>((16*m+v)::j.1,j.2))=a):=by unfold Hid;rw[<-O.o];simp[g7,z]
          clear z O;go_wp2_with fail;refine x.o.mono ?_;rintro c w' ⟨rfl,rfl⟩;have a7:bits BinOp.or IntKind.u8 ((m:Int)*16) (v:Int)=((16*m+v:Nat):Int):=by have:=u8_or_nat (m*16) v (by omega) (by omega);rw[rW m v a4 a5]at this;simp only[fi,Int.natCast_add]at this ⊢;rw[show((16:Nat):Int)=16 from rfl]at this ⊢;rw[this];omega
          obtain⟨k,a2⟩:∃k,16*m+v=k:=⟨_,rfl⟩;rw[a2]at R a7;clear a2;by_cases X:k=0
          ·have e:Hid (a=none):=by unfold Hid;rw[<-R.o,aA X];rfl
           have a9:((k:Int) != 0)=false:=by rw[X];rfl
           go_wp2_with fail;refine(sn _).mono ?_;rintro c w' ⟨rfl,rfl⟩;exact⟨rfl,kg.none_ e.o I.o.only⟩
          ·have a3:Hid (km (d++[k]) (g7 0 0 u)=a):=by unfold Hid;rw[<-R.o,au X,xV]
           have a9:((k:Int) != 0)=true:=by simp;omega
           go_wp2_with fail;refine(oq _).mono ?_;rintro c w' ⟨rfl,rfl⟩;have W:=g.o.few;have a8:=I.o.sz;go_wp2_with (at_builtin;refine aK _ rfl (.tmp 25) (.tmp 27) 23 rfl w.heap.size 5 i0 (.int .u8 0) 1 1 aq hi ao a0 a1 rfl (by decide) u3 d.length _ rfl (I.o.alloc _).own ⟨w'.heap.size,0,none⟩ 1 1 ([k].map λj:Nat=>.int .u8 (j:Int)) rfl rfl (Bu.one_news (k) w') ?hone ?h63 ?hby ?hbs ?_)
           case hone=>intro ba L;simp at L;subst L;rfl
           case h63=>unfold maxLen;omega
           case hby=>omega
           case hbs=>simp;omega
           intro v6 w6 M J _;have G:=gv ((I.o.alloc _).app (xs:=[k]) (by simp) M J (by simp only[ag,aw]at W ⊢;omega));have P:=gv G.o.sc.posS;clear M J;go_wp2;go_roundw
           case rel=>exact⟨_,d++[k],G,a3⟩
           case measure=>rw[Q.o,P.o];have:=g.o.sc.le;simp only[ag]at this ⊢;omega
     ·have bb:((b:Int)==35)=false:=by simp;omega
      have F:Hid (km (d++[b]) (g7 0 0 u)=a):=by unfold Hid;rw[<-h.o,nameS_on K T,xV]
      clear h K n N T;have W:=g.o.few;have a8:=l.o.sz;go_wp2_with (at_builtin;refine aK _ rfl (.tmp 25) (.tmp 27) 23 rfl w.heap.size 5 i0 (.int .u8 0) 1 1 aq hi ao a0 a1 rfl (by decide) u3 d.length _ rfl (l.o.alloc _).own ⟨w'.heap.size,0,none⟩ 1 1 ([b].map λj:Nat=>.int .u8 (j:Int)) rfl rfl (Bu.one_news b w') ?hone ?h63 ?hby ?hbs ?_)
      case hone=>intro ba L;simp at L;subst L;rfl
      case h63=>unfold maxLen;omega
      case hby=>omega
      case hbs=>simp;omega
      intro v6 w6 M J _;have G:=gv ((l.o.alloc _).app (xs:=[b]) (by simp) M J (by simp only[ag,aw]at W ⊢;omega));have P:=gv G.o.sc.posS;clear M J;go_wp2;go_roundw
      case rel=>exact⟨_,d++[b],G,F⟩
      case measure=>rw[Q.o,P.o];have:=g.o.sc.le;simp only[ag]at this ⊢;omega
end
section
structure gz(α:Type) where
 kind:Nat
 n:Int
 places:Nat
 text:List Nat
 items:List α
 keys:List (List Nat)
 filters:List Nat
def VT:Nat->Type
 |0=>Empty
 |k+1=>gz (VT k)
def hJ(α:Type)(a:Nat)(b:Int)(c:Nat)(d:List Nat):gz α:=⟨a,b,c,d,[],[],[]⟩
def nV{e:Type}(a:gz e)(c d b:Value):Value:=.agg #[.int .i64 (a.kind:Int),.int .i64 a.n,.int .i64 (a.places:Int),.string (gC a.text),c,d,b]
def cellsOf(a:Value):List Value:=a.cells.toList
def jr(P:Nat->Prop)(w:World)(c:TypeId)(e:Nat)(b:Value)(d:Nat)(f:List Value):Prop:=w.ownsRow 0 c e b d f/\∀a,b.ownBlock=some a->P a/\a<w.heap.size
def gR(P:Nat->Prop):(k:Nat)->World->Value->VT k->Prop
 |0,_,_,_=>False
 |k+1,w,v,V=>∃(c d b:Value) (a:List Value),v=nV (show gz (VT k)from V) c d b/\a.length=(show gz (VT k)from V).items.length /\
   jr P w 67 7 c a.length (a.flatMap cellsOf)/\(∀(i:Nat) (e:Value) (f:VT k),a[i]?=some e->(show gz (VT k)from V).items[i]?=some f->gR P k w e f) /\
   jr P w 9 1 d (show gz (VT k)from V).keys.length ((show gz (VT k)from V).keys.map λs=>.string (gC s)) /\
   jr P w 3 1 b (show gz (VT k)from V).filters.length ((show gz (VT k)from V).filters.map λg:Nat=>.int .i64 (g:Int))
variable{P Q:Nat->Prop}{w w':World}
theorem zX{w:World}{b c d f e:Nat}{g:Value}{h:List Value}(l:w.ownsRow b d f g e h)(o:c<=b):w.ownsRow c d f g e h:=by
 obtain⟨m,a⟩:=l;refine⟨m,?_⟩;rcases a with a | ⟨k,i,j,e1,e2,n⟩;·exact Or.inl a
 ·exact Or.inr ⟨k,i,j,e1,by omega,n⟩
theorem jr.nil(P:Nat->Prop)(w:World)(a c:Nat):jr P w a c (.slice none 0 0) 0 []:=⟨bk _ _ _ _,λg b=>by cases b⟩
theorem jr.of{b d h g:Nat}{c:Value}{i:List Value}(e:w.ownsRow b d h c g i)(j:∀a,c.ownBlock=some a->P a):jr P w d h c g i:=
 ⟨zX e (aE _),λa f=>⟨j a f,(e.lt a f).2⟩⟩
theorem jr.mono{e d n:Nat}{v:Value}{xs:List Value}(b:jr P w e d v n xs)(f:∀a,P a->a<w.heap.size->Q a):jr Q w e d v n xs:=
 ⟨b.1,λa c=>⟨f a (b.2 a c).1 (b.2 a c).2,(b.2 a c).2⟩⟩
theorem jr.keep{d k n:Nat}{e:Value}{l:List Value}(o:jr P w d k e n l)(r:∀a,P a->a<w.heap.size->w'.heap[a]?=w.heap[a]?):jr P w' d k e n l:=by
 obtain⟨⟨g,b⟩,h3⟩:=o;rcases b with b | ⟨a,m,f,e1,e2,q,p⟩;·exact⟨⟨g,Or.inl b⟩,λa h=>by rw[b.1]at h;cases h⟩
 ·have c:e.ownBlock=some a:=by rw[e1];rfl
  have i:w'.heap[a]?=some (.cells f d (0,0)):=by rw[r a (h3 a c).1 (h3 a c).2];exact q
  exact⟨⟨g,Or.inr ⟨a,m,f,e1,e2,i,p⟩⟩,λs j=>by rw[c]at j;cases j;exact⟨(h3 a c).1,ae i⟩⟩
theorem gR.keep:∀(k:Nat) {e:Value} {c:VT k},gR P k w e c->(∀a,P a->a<w.heap.size->w'.heap[a]?=w.heap[a]?)->gR P k w' e c
 |0,_,_,d,_=>d
 |k+1,e,c,d,b=>by obtain⟨p,q,f,r,g,h,h3,j,l,m⟩:=d;exact⟨p,q,f,r,g,h,h3.keep b,λi s y n o=>gR.keep k (j i s y n o) b,l.keep b,m.keep b⟩
theorem gR.mono:∀(k:Nat) {v:Value} {V:VT k},gR P k w v V->(∀b,P b->b<w.heap.size->Q b)->gR Q k w v V
 |0,_,_,c,_=>c
 |k+1,v,V,c,a=>by obtain⟨n,o,d,p,e,f,h3,g,h,j⟩:=c;exact⟨n,o,d,p,e,f,h3.mono a,λi q y l m=>gR.mono k (g i q y l m) a,h.mono a,j.mono a⟩
theorem gR.leaf(k:Nat)(a:Nat)(b:Int)(c:Nat)(d:List Nat):gR P (k+1) w (.agg #[.int .i64 (a:Int),.int .i64 b,.int .i64 (c:Int),.string (gC d),.slice none 0 0,.slice none 0 0,.slice none 0 0]) (hJ (VT k) a b c d):=
 ⟨.slice none 0 0,.slice none 0 0,.slice none 0 0,[],rfl,rfl,jr.nil _ _ _ _,λf g h e _=>by simp at e,jr.nil _ _ _ _,jr.nil _ _ _ _⟩
theorem gR.cells{k:Nat}{v:Value}{V:VT k}(a:gR P k w v V):(cellsOf v).length=7/\∀c∈cellsOf v,c.oneCell'=true:=by
 cases k with
 |zero=>cases a
 |succ k=>obtain⟨l,m,j,vs,rfl,_,e,_,f,d⟩:=a;obtain⟨a1,g,rfl⟩:=i_ e.1;obtain⟨a2,h,rfl⟩:=i_ f.1;obtain⟨a3,i,rfl⟩:=i_ d.1;refine⟨rfl,λc b=>?_⟩;simp[cellsOf,nV,Value.cells]at b;rcases b with rfl | rfl | rfl | rfl | rfl | rfl | rfl<;>rfl
end
end Go.Proofs.YtgkljcmjnphpeaaGreatDoor
