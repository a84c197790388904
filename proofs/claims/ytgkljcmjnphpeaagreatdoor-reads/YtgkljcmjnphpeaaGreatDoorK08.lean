import Derived.Test.YtgkljcmjnphpeaaGreatDoorK07
set_option linter.defProp false
set_option linter.unusedVariables false
set_option linter.unusedSimpArgs false
set_option maxHeartbeats 2000000
set_option maxRecDepth 100000
open List renaming length->G
open Go renaming Value->GI,World->Gr,Calls->K8,Ending->MB,Act->MN
open Go.Value renaming int->I,pointer->M2,agg->N1,bool->OV,tuple->OW,slice->Z
open Go.RowKit renaming Hid->L1,Below->LT
open Option renaming none->N,some->O
open Bool renaming false->P2,true->PV
open Or renaming inl->P3,inr->P4
open Go.Obj renaming cells->Pp
open Go.Ending renaming returned->Ps
open Go.Proofs.Tryz renaming prog->Qe
open List renaming replicate->Qf
open Go.IntKind renaming i64->U
open Go.Proofs.Tryz
namespace Go.Proofs.YtgkljcmjnphpeaaGreatDoor
open Go.RowKit
section
variable{B y v z t s:Nat}{d:List Nat}{g:Nat}{j:List GI}{w:Gr}{p A left f:Nat}{C:GI}{u:List Nat}
def take_zero(h:Rd B y z t s d g w p C u):K8 Qe 164 #[M2 (O ⟨y,0,N⟩),I U (0:Nat)] w λi b=>∃e c,i=Ps (Z (O e) 0 c)/\Rd B y z t s d g b p C u/\gb 5 B [y] w b:=by
 have m:=h.c0;have n:=h.c1;have q:=h.fz 1;have k:=h.cp;have l:=h.lc;have a:=h.lp;by_cases o:p<s
 ·go_in
  go_wp2_with fail;go_quiet ((go_at_call 163;exact bj (nT _)));go_wp2_with fail;go_quiet (fail);go_wp2;go_ret;exact⟨⟨z,t+p,N⟩,s-p,rfl,(h.drewN _).set1 p a,((gb.refl _ _ _ _).drewN _).setCell eA _⟩
 ·obtain rfl:p=s:=Y
  go_in
  go_wp2_with fail;go_quiet ((go_at_call 163;exact bj (nT _)));go_wp2_with fail;go_quiet (fail);go_wp2;go_ret;exact⟨⟨z,t,N⟩,0,rfl,(h.drewN _).set1 p a,((gb.refl _ _ _ _).drewN _).setCell eA _⟩
def Jj:∀a:List Bool,gM (G a) (gw a)=a
 | []=>rfl
 |b::a=>by
  simp only[aj,gw,gM];have e1:(b.toNat+2*gw a)%2=b.toNat:=by cases b<;>simp<;>omega
  have e2:(b.toNat+2*gw a)/2=gw a:=by cases b<;>simp<;>omega
  rw[e1,e2,Jj a];cases b<;>rfl
def FE(a:Nat)(r:List Bool)(h:a<=G r):gM a (gw (r.take a))=r.take a:=by
 have:=Jj (r.take a)
 rwa [ay,b_ h]at this
def KG(r:List Bool)(a:Nat):ie r (a+1)=ie r a++[gw ((r.drop (8*a)).take 8)]:=by simp[ie,List.range_succ]
def Ib(r:List Bool)(a:Nat):(ie r a).length=a:=by simp[ie]
def Kr(r:List Bool):gw (r.take 8)<256:=by
 have c:=jk (r.take 8);have a:(r.take 8).length<=8:=by rw[ay];omega
 have b:2^(r.take 8).length<=2^8:=aJ Y a;omega
def E2(r:List Bool)(c:Nat):∀b∈ie r c,b<256:=by intro b a;simp only[ie,cT]at a;obtain⟨e,_,rfl⟩:=a;exact Kr _
def bits8_num(a:Nat)(h:a<256):jY a=gM 8 a:=by
 have:∀a:Fin 256,jY a.val=gM 8 a.val:=by decide +kernel
 exact this ⟨a,h⟩
def zd(r:List Bool):∀a,8*a<=G r->gA (ie r a)=r.take (8*a)
 |0,_=>by simp[ie,gA]
 |a+1,h=>by
  have c:=zd r a Y;rw[KG];have b:gA (ie r a++[gw ((r.drop (8*a)).take 8)])=gA (ie r a)++jY (gw ((r.drop (8*a)).take 8)):=by simp[gA]
  rw[b,c,bits8_num _ (Kr _),FE 8 _ lB];rw[show 8*(a+1)=8*a+8 by omega,List.take_add]
def CN{a:List Nat}(h:∀e∈a,e<256)(b:Nat)(c:b<G a):nth a b<256:=by
 have:nth a b=a[b]:=by simp[nth,af c]
 rw[this];exact h _ (cq c)
def OU{c:List Bool}(h:Fl B y v z t s d g j w c f C u)(n:(c.drop (G c%8)).length<16):K8 Qe 222 #[M2 (O ⟨v,0,N⟩)] w λi L=>i=gU 5/\gb 5 B [y,v] w L:=by
 obtain⟨e,m⟩:∃e,c.drop (G c%8)=e:=⟨_,rfl⟩;rw[m]at n;have l:=H (yu h);rw[m]at l
 go_in
 go_wp2_with fail;apply l.o.m;rintro i k ⟨rfl,⟨K,x,r,E⟩,F⟩;have D:Fl B y v z t s d g j k e f C u:=⟨K,x,0,r,Y,by rw[<-E];simp[bL,gM]⟩;have q:=H (v_ (w:=k.drew) 16 Y n D.drew);go_wp2_with fail;refine om (λ_ _=>True) aG ?_;intro a;have b:(λ(_:Array Bool) (_:Gr)=>True) (Array.replicate 10 P2) k.drew:=trivial;refine tj 0 a b λa b=>?_;refine tj 1 a b λa b=>?_;refine tj 2 a b λa b=>?_;refine tj 4 a b λa b=>?_;refine tj 5 a b λa b=>?_;refine tj 6 a b λa b=>?_;refine on 3 a λM P=>?_;go_simp;apply q.o.m;rintro i Q ⟨rfl,J⟩;exact⟨rfl,rfl,(F.drew).t J⟩
def Pv{c:List Bool}(h:Fl B y v z t s d g j w c f C u)(q:16<=(c.drop (G c%8)).length)(Q:(c.drop (G c%8)).length<32):K8 Qe 222 #[M2 (O ⟨v,0,N⟩)] w λe W=>e=gU 5/\gb 5 B [y,v] w W:=by
 obtain⟨i,n⟩:∃i,c.drop (G c%8)=i:=⟨_,rfl⟩;rw[n]at q Q;have l:=H (yu h);rw[n]at l
 go_in
 go_wp2_with fail;apply l.o.m;rintro e k ⟨rfl,⟨V,K,J,P⟩,R⟩;have L:Fl B y v z t s d g j k i f C u:=⟨V,K,0,J,Y,by rw[<-P];simp[bL,gM]⟩;have r:=H (sN (w:=k.drew) 16 Y q L.drew);go_wp2_with fail;refine om (λ_ _=>True) aG ?_;intro a;have b:(λ(_:Array Bool) (_:Gr)=>True) (Array.replicate 10 P2) k.drew:=trivial;refine tj 0 a b λa b=>?_;refine tj 1 a b λa b=>?_;refine tj 2 a b λa b=>?_;refine tj 4 a b λa b=>?_;refine tj 5 a b λa b=>?_;refine tj 6 a b λa b=>?_;refine on 3 a λD m=>?_;go_simp;apply r.o.m;rintro e X ⟨rfl,M,S⟩;have x:=H (v_ 16 Y lB M);refine m _ _ trivial (λE F=>?_);have a:=E;have b:=F
 (try simp only[nH])
 refine on 7 a λD m=>?_;go_simp;apply x.o.m;rintro e w8 ⟨rfl,T⟩;exact⟨rfl,rfl,((R.drew).t S).t T⟩
def OY{a:List Bool}(h:Fl B y v z t s d g j w a f C u){i e:Nat}(P:32<=(a.drop (G a%8)).length)(q:gw ((a.drop (G a%8)).take 16)=i)(r:gw (((a.drop (G a%8)).drop 16).take 16)=e)(hn:i<65536)(hm:e<65536)(aa:i+e≠65535):K8 Qe 222 #[M2 (O ⟨v,0,N⟩)] w λb x=>b=gU 5/\gb 5 B [y,v] w x:=by
 obtain⟨c,n⟩:∃c,a.drop (G a%8)=c:=⟨_,rfl⟩;rw[n]at P q r;have k:=H (yu h);rw[n]at k
 go_in
 go_wp2_with fail;apply k.o.m;rintro b D ⟨rfl,⟨V,J,F,M⟩,Q⟩;have K:Fl B y v z t s d g j D c f C u:=⟨V,J,0,F,Y,by rw[<-M];simp[bL,gM]⟩;have l:=H (sN (w:=D.drew) 16 Y (show 16<=G c by omega) K.drew);have E:=H r;rw[q]at l;have tok:True:=trivial;go_wp2_with fail;go_region_with (first|(go_at_call 221;have W:=tok;apply l.o.m;rintro b w2 ⟨rfl,L,R⟩;have m:=H (sN 16 Y lB L);rw[E.o]at m)|(go_at_call 221;apply m.o.m;rintro b w3 ⟨rfl,X,S⟩));have T:=(Q.drew.t R).t S;have e1:((e:Int)==65535-(i:Int))=P2:=eB;go_wp2_with fail;apply(mn _ rfl _).m;rintro b x ⟨rfl,rfl⟩;exact⟨rfl,rfl,T⟩
def Pw{c:List Bool}(h:Fl B y v z t s d g j w c f C u){e l:Nat}(hr:32<=(c.drop (G c%8)).length)(F:gw ((c.drop (G c%8)).take 16)=e)(J:gw (((c.drop (G c%8)).drop 16).take 16)=l)(hn:e<65536)(al:e+l=65535)(ac:(c.drop (G c%8)).length%8=0)(E:((c.drop (G c%8)).drop 32).length<8*e):K8 Qe 222 #[M2 (O ⟨v,0,N⟩)] w λi m=>i=gU 5/\gb 5 B [y,v] w m:=by
 obtain⟨k,x⟩:∃k,c.drop (G c%8)=k:=⟨_,rfl⟩;rw[x]at hr F J ac E;have n:=H (yu h);rw[x]at n
 go_in
 go_wp2_with fail;apply n.o.m;rintro i K ⟨rfl,⟨p1,R,Q,aa⟩,k1⟩;have S:Fl B y v z t s d g j K k f C u:=⟨p1,R,0,Q,Y,by rw[<-aa];simp[bL,gM]⟩;rw[au]at E;have q:=H (sN (w:=K.drew) 16 Y (show 16<=G k by omega) S.drew);have M:=H J;rw[F]at q;have tok:True:=trivial;go_wp2_with fail;go_region_with (first|(go_at_call 221;have _t:=tok;apply q.o.m;rintro i w2 ⟨rfl,T,k2⟩;have r:=H (sN 16 Y lB T);rw[M.o]at r)|(go_at_call 221;apply r.o.m;rintro i w3 ⟨rfl,V,k3⟩));have kk:=(k1.drew.t k2).t k3;have e1:(l:Int)=65535-(e:Int):=Y;rw[e1];go_wp2_with fail;apply(nT _).m;rintro i m ⟨rfl,rfl⟩;obtain⟨p,A,D,X⟩:=V.whole (by rw[au,au];omega);have W:G d<p+e:=by have:=dV List.length X;rw[g8,au,au,au]at this;omega
 have P:=D.c0;have L:=H (EP (D.rd.drewN 1) e Y W);go_wp2_with fail;refine om (vW v (M2 (O ⟨y,0,N⟩))) aG ?_;intro a;have b:vW v (M2 (O ⟨y,0,N⟩)) (Array.replicate 13 P2) m.drew:=P;refine tm 0 a b λa b=>?_;refine tm 1 a b λa b=>?_;refine tm 2 a b λa b=>?_;refine tm 3 a b λa b=>?_;refine tm 4 a b λa b=>?_;refine tm 5 a b λa b=>?_;refine tm 6 a b λa b=>?_;refine tm 7 a b λa b=>?_;refine tm 8 a b λa b=>?_;refine tm 9 a b λa b=>?_;refine tm 10 a b λa b=>?_;refine on 11 a λK' hK=>?_;go_simp;apply L.o.m;rintro i w4 ⟨rfl,ad,rfl⟩;exact⟨rfl,rfl,(kk.drewN 1).drewN ad⟩
def Pa{a:List Bool}(h:Fl B y v z t s d g j w a f C u){K:Nat}(hr:32<=(a.drop (G a%8)).length)(D:gw ((a.drop (G a%8)).take 16)=0)(E:gw (((a.drop (G a%8)).drop 16).take 16)=K)(aa:K=65535)(ad:(a.drop (G a%8)).length%8=0):K8 Qe 222 #[M2 (O ⟨v,0,N⟩)] w λb k=>b=Ps (OW #[])/\∃al,Fl B y v z t s d g j k ((a.drop (G a%8)).drop 32) f al u/\gb 5 B [y,v] w k:=by
 obtain⟨c,r⟩:∃c,a.drop (G a%8)=c:=⟨_,rfl⟩;rw[r]at hr D E ad ⊢;have l:=H (yu h);rw[r]at l
 go_in
 go_wp2_with fail;apply l.o.m;rintro b M ⟨rfl,⟨p1,T,S,ac⟩,k1⟩;have V:Fl B y v z t s d g j M c f C u:=⟨p1,T,0,S,Y,by rw[<-ac];simp[bL,gM]⟩;have m:=H (sN (w:=M.drew) 16 Y (show 16<=G c by omega) V.drew);have R:=H E;rw[D]at m;have tok:True:=trivial;go_wp2_with fail;go_region_with (first|(go_at_call 221;have _t:=tok;apply m.o.m;rintro b w2 ⟨rfl,W,k2⟩;have n:=H (sN 16 Y lB W);rw[R.o]at n)|(go_at_call 221;apply n.o.m;rintro b w3 ⟨rfl,x,k3⟩));have kk:=(k1.drew.t k2).t k3;subst aa;go_wp2_with fail;apply(nT _).m;rintro b k ⟨rfl,rfl⟩;rw[di]at x;obtain⟨p,A,i,hq⟩:=x.whole lB;have P:=H hq;have c0:=i.c0;have Q:=H (take_zero (i.rd.drewN 1));go_wp2_with fail;go_region_with (first|(go_at_call 164;apply Q.o.m;rintro b w4 ⟨ta,tc,rfl,e,F⟩;have q:=i.rdKept e (((gb.refl _ _ _ _).drewN 1).t F);have c4:=q.c0)|(go_at_call 213;refine(po e [] ta tc (by simpa using e.lo) (by have:=e.sz;omega) (λa0 X=>(by cases X))).m ?_;rintro b w5 ⟨rfl,ao,L,J⟩));all_goals go_wp2
 all_goals go_end0
 all_goals rw[cF]at L
 all_goals exact⟨rfl,ao,⟨p,A,0,q.rdKept L J,Y,by rw[<-P.o];simp[bL,gM]⟩,(kk.drewN 1).t ((F.t J).m eA)⟩
def Pt{a:List Bool}(h:Fl B y v z t s d g j w a f C u){R:Except Nat (List Bool×List Nat)}(b:jw g a u=R):K8 Qe 222 #[M2 (O ⟨v,0,N⟩)] w (vC B y v z t s d g j f w (OW #[]) R):=by
 have ad:G u<=g:=by obtain⟨p,A,left,W,_,_⟩:=h;exact W.rd.lo
 have P:(a.drop (G a%8)).length%8=0:=by rw[au];omega
 unfold jw at b;by_cases n:(a.drop (G a%8)).length<32
 ·rw[ai n]at b;subst b;by_cases S:(a.drop (G a%8)).length<16;·exact OU h S
  ·exact Pv h Y n
 rw[ah n]at b;have M:∀r:List Bool,gw (r.take 16)<65536:=λr=>by
  have hv:=jk (r.take 16);have hl:(r.take 16).length<=16:=by rw[ay];omega
  have q:2^(r.take 16).length<=2^16:=aJ Y hl;omega
 have D:=M (a.drop (G a%8));have L:=M ((a.drop (G a%8)).drop 16);obtain⟨c,i⟩:∃c,gw ((a.drop (G a%8)).take 16)=c:=⟨_,rfl⟩;obtain⟨m,e⟩:∃m,gw (((a.drop (G a%8)).drop 16).take 16)=m:=⟨_,rfl⟩;rw[i]at D b;rw[e]at L b;by_cases o:c+m≠65535
 ·rw[ai (P3 o)]at b;subst b;exact OY h Y i e D L o
 by_cases l:((a.drop (G a%8)).drop 32).length<8*c
 ·rw[ai (P4 l)]at b;subst b;exact Pw h Y i e D Y P l
 rw[ah (λh=>h.elim o l)]at b;by_cases T:c=0
 ·subst T;rw[ai Y]at b;subst b;apply(Pa h Y i e Y P).m;rintro ac w' ⟨rfl,aa,X,k⟩;refine⟨rfl,aa,?_,k⟩;simpa[ie]using X
 have K:=E2 ((a.drop (G a%8)).drop 32) c;have V:=Ib ((a.drop (G a%8)).drop 32) c;have Q:a.drop (G a%8)=gM 16 (ie ((a.drop (G a%8)).drop 32) c).length++(gM 16 (65535-(ie ((a.drop (G a%8)).drop 32) c).length)++(gA (ie ((a.drop (G a%8)).drop 32) c)++((a.drop (G a%8)).drop 32).drop (8*c))):=by rw[V,zd _ c Y,dd,show 65535-c=m by omega,<-e,<-i];generalize a.drop (G a%8)=F at *;rw[FE 16 F Y,FE 16 (F.drop 16) lB,show(32:Nat)=16+16 from rfl,<-di,dd,dd]
 have q:(((a.drop (G a%8)).drop 32).drop (8*c)).length%8=0:=by rw[au,au];rw[au]at l;omega
 by_cases J:G u+c<=g
 ·rw[ai J]at b;subst b;exact GW _ Y Y (λE x=>CN K E x) h Q q Y
 ·rw[ah J]at b;subst b;exact Pj _ Y Y (λE x=>CN K E x) h Q q Y
end
def gZ(cs ss:List Nat)(r:List Bool)(b:List Nat):Option (List Bool×List Nat):=
 match gN cs ss r with
 |none=>N
 |some (c,a)=>
  if c<16 then O (a,b++[c])
  else if c=16/\G b=0 then N
  else if c=16 then(if 2<=G a then O (a.drop 2,b++Qf (3+gw (a.take 2)) (nth b (G b-1)))else N)
  else if c=17 then(if 3<=G a then O (a.drop 3,b++Qf (3+gw (a.take 3)) 0)else N)
  else if 7<=G a then O (a.drop 7,b++Qf (11+gw (a.take 7)) 0)else N
def jn(cs ss:List Nat)(b:Nat):Nat->List Bool->List Nat->Option (List Bool×List Nat)
 |0,_,_=>N
 |k+1,r,a=>if b<=G a then(if (G a)=b then O (r,a)else N)else match gZ cs ss r a with
  |none=>N
  |some (d,c)=>jn cs ss b k d c
def i9(b d:List Nat)(c:Nat)(r:List Bool)(a:List Nat):Option (List Bool×List Nat):=jn b d c (G r+1) r a
def lq{b d:List Nat}{r c:List Bool}{e f:List Nat}(h:gZ b d r e=O (c,f)):G c<G r:=by
 unfold gZ at h;cases a:gN b d r with
 |none=>rw[a]at h;cases h
 |some g=>
  obtain⟨j,i⟩:=g;have:=lU a;rw[a]at h;simp only[]at h;split at h;·cases h;exact this
  split at h;·cases h
  split at h
  ·split at h;·cases h;rw[au];omega
   ·cases h
  split at h
  ·split at h;·cases h;rw[au];omega
   ·cases h
  split at h;·cases h;rw[au];omega
  ·cases h
def wN(c e:List Nat)(d:Nat):∀k a r b,G r<k->G r<a->jn c e d k r b=jn c e d a r b
 |0,_,_,_,h,_=>absurd h (Nat.not_lt_zero _)
 |_+1,0,_,_,_,h=>absurd h (Nat.not_lt_zero _)
 |k+1,a+1,r,b,h,j=>by
  simp only[jn];split;·rfl
  ·split;·rfl
   ·rename_i i f g;have:=lq g;exact wN c e d k a i f Y Y
def o0{c d:List Nat}{b:Nat}{r:List Bool}{a:List Nat}(h:b<=G a):i9 c d b r a=if (G a)=b then O (r,a)else N:=by unfold i9;simp only[jn,ai h]
def lS{b d:List Nat}{c:Nat}{r:List Bool}{a:List Nat}(h:G a<c)(e:gZ b d r a=N):i9 b d c r a=N:=by unfold i9;simp only[jn,ah (Nat.not_le.2 h),e]
def oP{a c:List Nat}{b:Nat}{r f:List Bool}{d e:List Nat}(h:G d<b)(g:gZ a c r d=O (f,e)):i9 a c b r d=i9 a c b f e:=by
 have i:jn a c b (G r+1) r d=jn a c b (G r) f e:=by simp only[jn,ah (Nat.not_le.2 h),g]
 have:=lq g;unfold i9;rw[i];exact wN a c b _ _ f e Y Y
section
variable{B b:Nat}{S:ByteArray}{j:Nat}{w:Gr}{p:Nat}{t:GI}{m:List Nat}{e:Nat}
def gb.new{e i B:Nat}{S:List Nat}{a w g:Gr}(h:gb e B S a w)(k:gb i a.heap.size [] w g):gb e B S a g :=
 ⟨k.os.t h.os,k.tape.t h.tape,k.output.t h.output,aA h.size k.size,λd f n c l=>k.block d f eA (h.block d f n c l) (P3 (ae c))⟩
def CQ{l:Gr}{f g:Nat}{i:GI}{n:List GI}(h:w.ownsRow f 3 1 i g n)(r:jx B b S j w p t m e)(k:gb 5 B [b] w l):l.ownsRow f 3 1 i g n:=by
 obtain⟨h1,h2⟩:=h;refine⟨h1,?_⟩;rcases h2 with h2|⟨a,c,o,e1,e2,d,s⟩;·exact P3 h2
 ·refine P4 ⟨a,c,o,e1,e2,k.block a _ ?_ d (P4 (by intro c q e;simp at e)),s⟩;intro u;obtain⟨v,q,h3⟩:=r.isIn a u;rw[h3]at d;simp at d
def yX(S:ByteArray)(f h:List Nat)(g:Nat)(c:Option (List Bool×List Nat))(a:Nat)(d:List Nat)(e:Nat):Prop:=
 (e=0/\a<=8*S.size/\i9 f h g (gC S a) d=c)\/(e=5/\c=N)
def ES(S:ByteArray)(f:Option (List Bool×List Nat))(a:Nat)(c:List Nat)(e:Nat):Prop:=match f with
 |some (r,d)=>e=0/\c=d/\gC S a=r/\a<=8*S.size
 |none=>e=5
section
variable{b d:List Nat}{n q s f e:Nat}{L:List Nat}{a:Option (List Bool×List Nat)}
def zF(r:q<=8*S.size)(i:G L<n)(k:i9 b d n (gC S q) L=a)(h:SA b d S q 0 s f e)(c:s<16):yX S b d n a f (L++[s]) e:=by
 rcases h with⟨l,_⟩|⟨_,u,g,rfl,rfl,o⟩|⟨_,g,rfl⟩;·exact absurd rfl l
 ·refine P3 ⟨rfl,o,?_⟩;rw[<-k];refine(oP i ?_).s;unfold gZ;rw[g];simp only[ai c]
 ·refine P4 ⟨rfl,?_⟩;rw[<-k];refine lS i ?_;unfold gZ;rw[g]
def Ms(k:G L<n)(l:i9 b d n (gC S q) L=a)(h:SA b d S q 0 s f e)(c:s=16)(g:G L=0):a=N/\nE 5 e=5:=by
 rcases h with⟨g,_⟩|⟨_,r,i,rfl,rfl,o⟩|⟨_,i,rfl⟩;·exact absurd rfl g
 ·refine⟨?_,rz 5⟩;rw[<-l];refine lS k ?_;unfold gZ;rw[i];simp only[ah (show ¬s<16 by omega),ai (And.intro c g)]
 ·refine⟨?_,re Y⟩;rw[<-l];refine lS k ?_;unfold gZ;rw[i]
def FC{k y x e2:Nat}{r:List Nat}(l:G L<n)(o:i9 b d n (gC S q) L=a)(h:SA b d S q 0 s f e)(u:tR S k f e y x e2)
  (z:∀c,gN b d (gC S q)=O (s,c)->y=gw (c.take k)->gZ b d (gC S q) L=if k<=G c then O (c.drop k,r)else N)
  (A:∀c,gN b d (gC S q)=O (s,c)->G c<k->gZ b d (gC S q) L=N):yX S b d n a x r e2:=by
 rcases h with⟨g,_⟩|⟨_,E,i,rfl,rfl,D⟩|⟨_,i,rfl⟩;·exact absurd rfl g
 ·rcases u with⟨g,_⟩|⟨_,v,C,rfl,rfl⟩|⟨_,v,_,rfl,rfl⟩;·exact absurd rfl g
  ·refine P3 ⟨rfl,v,?_⟩;rw[<-o];refine(oP l ?_).s;rw[z _ i C,ai eC,sS]
  ·refine P4 ⟨rfl,?_⟩;rw[<-o];exact lS l (A _ i eC)
 ·rcases u with⟨_,_,rfl,rfl⟩|⟨g,_⟩|⟨g,_⟩
  ·refine P4 ⟨rfl,?_⟩;rw[<-o];refine lS l ?_;unfold gZ;rw[i]
  ·omega
  ·omega
def CF{o l e2:Nat}(v:G L<n)(x:i9 b d n (gC S q) L=a)(h:SA b d S q 0 s f e)(r:tR S 2 f e o l e2)(c:s=16)(A:0<G L):yX S b d n a l (L++Qf (3+o) (nth L (G L-1))) e2:=by
 have i:¬s<16:=Y;have k:¬(s=16/\G L=0):=Y;refine FC v x h r (λz g y=>?_) (λz g u=>?_);·unfold gZ;rw[g,y];simp only[ah i,ah k,ai c]
 ·unfold gZ;rw[g];simp only[ah i,ah k,ai c,ah (Nat.not_le.2 u)]
def CG{r o e2:Nat}(x:G L<n)(y:i9 b d n (gC S q) L=a)(h:SA b d S q 0 s f e)(u:tR S 3 f e r o e2)(c:s=17):yX S b d n a o (L++Qf (3+r) 0) e2:=by
 have i:¬s<16:=Y;have k:¬(s=16/\G L=0):=Y;have l:¬s=16:=Y;refine FC x y h u (λA g z=>?_) (λA g v=>?_);·unfold gZ;rw[g,z];simp only[ah i,ah k,ah l,ai c]
 ·unfold gZ;rw[g];simp only[ah i,ah k,ah l,ai c,ah (Nat.not_le.2 v)]
def CH{u r e2:Nat}(y:G L<n)(z:i9 b d n (gC S q) L=a)(h:SA b d S q 0 s f e)(v:tR S 7 f e u r e2)(c:17<s):yX S b d n a r (L++Qf (11+u) 0) e2:=by
 have i:¬s<16:=Y;have k:¬(s=16/\G L=0):=Y;have l:¬s=16:=Y;have o:¬s=17:=Y;refine FC y z h v (λC g A=>?_) (λC g x=>?_);·unfold gZ;rw[g,A];simp only[ah i,ah k,ah l,ah o]
 ·unfold gZ;rw[g];simp only[ah i,ah k,ah l,ah o,ah (Nat.not_le.2 x)]
def Ei{k v g e2:Nat}(r:q<=8*S.size)(h:SA b d S q 0 s f e)(i:(g=f/\e2=e)\/tR S k f e v g e2):(if e2=0 then 8*S.size+1-g else 0)<8*S.size+1-q:=by
 rcases h with⟨c,_⟩|⟨_,z,l,rfl,rfl,u⟩|⟨_,l,rfl⟩;·exact absurd rfl c
 ·have x:q<f:=by have:=lU l;rw[nX,nX]at this;omega
  rcases i with⟨rfl,rfl⟩|⟨c,_⟩|⟨_,o,y,rfl,rfl⟩|⟨_,o,_,rfl,rfl⟩;·simp;omega
  ·exact absurd rfl c
  ·simp;omega
  ·simp;omega
 ·rcases i with⟨rfl,rfl⟩|⟨_,_,rfl,rfl⟩|⟨c,_⟩|⟨c,_⟩;·simp;omega
  ·simp;omega
  ·omega
  ·omega
end
end
section
variable{B b:Nat}{S:ByteArray}{a:Nat}{w:Gr}{p:Nat}{d:GI}{c:List Nat}{e:Nat}
def N7(h:jx B b S a w p d c 0)(hp:p<=8*S.size){bt M n:Nat}(hM:M<=1000)(hn:n<=400){A D:List Nat}(K:jU w bt A D M)(bv:∀r m r',gN A D r=O (m,r')->m<=1000)
  {a4:Option (List Bool×List Nat)} (bx:i9 A D n (gC S p) []=a4):K8 Qe 210 #[M2 (O ⟨b,0,N⟩),M2 (O ⟨bt,0,N⟩),I U n] w λt j=>∃v f x e,t=Ps v/\jx B b S a j x d c e/\ES S a4 x f e/\(e=0->j.ownsRow w.heap.size 3 1 v (G f) (gL f))/\jU j bt A D M/\gb 5 B [b] w j:=by
 obtain⟨i0,hi,bz,b0,b1⟩:=bu infoInt;have bi:=H bv;have a5:L1 (yX S A D n a4 p [] 0):=P3 ⟨rfl,hp,bx⟩
 go_in
 go_wp2;go_loopw [7] (λvl wr=>∃(x:Nat) (f:List Nat) (e:Nat),G f<=1000/\jx B b S a wr x d c e/\wr.ownsRow w.heap.size 3 1 vl (G f) (gL f)/\L1 (yX S A D n a4 x f e)/\jU wr bt A D M/\gb 5 B [b] w wr) (λ_ wr=>if errOf b wr=0 then 8*S.size+1-posOf b wr else 0)
 case atStart=>exact⟨p,[],0,eA,h,aX _ _ _ _,a5,K,gb.refl _ _ _ _⟩
 case round=>
  obtain⟨x,f,e,hL,r,ow,a5,K,kk⟩:=hrel;have mr:=H r.posOf;have me:=H r.errOf;have c4:=r.c4;obtain⟨a0,c0,rfl⟩:=jp ow;rcases a5.o with⟨rfl,hq,hP⟩|⟨rfl,hR⟩
  ·have W:=H hP;by_cases cn:G f<n
   ·have ao:(G f:Int)<n:=Y;have a8:=H (EF r (λ_=>hq) K hM);have X:L1 (∀j,gb 5 B [b] wr j->jU j bt A D M/\j.ownsRow w.heap.size 3 1 (Z a0 (G f) c0) (G f) (gL f)):=λj k=>⟨K.kept k r,CQ ow r k⟩;have a7:=H kk;clear K ow kk r;go_wp2_with fail;apply a8.o.m;rintro t w1 ⟨m,q1,e1,rfl,r1,E,bd,k1⟩;have b7:m<=1000:=by
     rcases bd with h|h;·omega
     ·obtain⟨r',bw⟩:=h.o;exact bi _ _ _ bw
    have s:=H (X w1 k1);have F:=H (a7.t k1);have l:=H r1;have b8:=F.o.size;clear bd a8 X a7 k1 r1;by_cases c1:m<16
    ·have bo:(m:Int)<16:=Y;go_wp2_with (at_builtin;refine a_ _ rfl (.tmp 35) (.tmp 37) 52 rfl w.heap.size 3 i0 (I U 0) 1 8 cG hi bz b0 b1 rfl cO (Z a0 (G f) c0) (G f) _ rfl (s.2.alloc _) ⟨w1.heap.size,0,N⟩ 1 1 [I U m] rfl rfl ?hnews ?hone ?h63 ?hby ?hbs ?_)
     case hnews=>exact Bm
     case hone=>intro b9 hu;simp at hu;subst hu;rfl
     case h63=>unfold maxLen;omega
     case hby=>omega
     case hbs=>simp;omega
     intro v2 w2 a1 bb _;have q:=H ((((gb.refl 3 w.heap.size [] w1).alloc _).grown bb (tN (s.2.alloc _))));have ba:gL f++[I U m]=gL (f++[m]):=by simp[gL]
     rw[ba]at a1;have T:=H a1;obtain⟨a2,c2,C⟩:=jp a1;subst C;have J:=H (l.keptI q);have L:=H J.errOf;have m3:=H J.posOf;have bs:(f++[m]).length=G f+1:=eA;clear a1 bb ba;go_wp2;go_roundw
     case rel=>exact⟨q1,f++[m],e1,Y,J,by rw[bs];exact T,zF hq cn W E c1,s.1.keptI q,gb.new F q⟩
     case measure=>rw[mr.o,me.o,L.o,m3.o];exact Ei (k:=0) (v:=0) hq E (P3 ⟨rfl,rfl⟩)
    ·have bo:¬(m:Int)<16:=Y;by_cases c2:m=16
     ·subst c2;by_cases z:G f=0
      ·have a9:((G f:Int)==0)=PV:=by simp;exact bM.1 z
       obtain⟨hR,h5⟩:=Ms cn W E rfl z;clear z;go_wp2_with fail;apply(ro l 5 Y).m;rintro t w2 ⟨rfl,i,g⟩;rw[h5]at i;have L:=H i.errOf;go_wp2;go_roundw
       case rel=>exact⟨_,f,5,hL,i,CQ s.2 l g,P4 ⟨rfl,hR⟩,s.1.kept g l,F.t g⟩
       case measure=>rw[mr.o,me.o,L.o];simp;omega
      ·have a9:((G f:Int)==0)=P2:=by simp;intro h;rw[h]at z;exact z rfl
       have h0:0<G f:=Y;obtain⟨bq,oc,bc,_⟩:=uH s.2 h0;simp only[Value.slice.injEq,true_and]at bc;obtain⟨rfl,rfl⟩:=bc;go_wp2_with fail;apply(rL l 2 Y).m;rintro t w2 ⟨v,q2,e2,rfl,i,P,C,g⟩;have bf:v<4:=by simpa using C
       have T:=H (CQ s.2 l g);have T2:=H (s.1.kept g l);have R:=H (F.t g);have J:=H i;have z2:=R.o.size;obtain⟨y,hD⟩:∃y,G f-1=y:=⟨_,rfl⟩;have br:y<G f:=Y;have hx:=T.o.cellAt y Y;have hX:(gL f)[y]?=O (I U (nth f y:Nat)):=by simp[gL,nth,br]
       rw[hX]at hx;have aa:=H (CF cn W E P rfl h0);have ac:=H (Ei hq E (P4 P));rw[hD]at aa;have b6:IntKind.i64.wrap ((G f:Int)-1)=(y:Int):=by rw[aU];omega
       have b4:(0:Int)<=(y:Int):=Y;have b5:(y:Int)<(G f:Int):=Y;generalize nth f y=bm at *;have ev:IntKind.i64.wrap (3+(v:Int))=((3+v:Nat):Int):=by rw[aU];omega
       have Q:=H (ED (Z (O ⟨bq,0,N⟩) (G f) c0) f T z2 (3+v) bm Y Y);rw[show((3+v:Nat):Int)=3+(v:Int)by omega]at Q;clear s l F i g C hX hD;go_wp2_with fail;apply Q.o.m;rintro t w3 ⟨v3,rfl,V,q⟩;have u:=H (J.keptI q);have L:=H u.errOf;have m3:=H u.posOf;obtain⟨a3,z,ad⟩:=jp V;subst ad;go_wp2;go_roundw
       case rel=>exact⟨q2,_,e2,by simp only[ak,bI];omega,u,by rw[ak,bI];exact V,aa,T2.keptI q,gb.new R q⟩
       case measure=>rw[mr.o,me.o,L.o,m3.o];exact ac
     ·have b2:((m:Int)==16)=P2:=eB;by_cases z:m=17
      ·subst z;go_wp2_with fail;apply(rL l 3 Y).m;rintro t w2 ⟨v,q2,e2,rfl,i,P,C,g⟩;have bf:v<8:=by simpa using C
       have T:=H (CQ s.2 l g);have T2:=H (s.1.kept g l);have R:=H (F.t g);have J:=H i;have z2:=R.o.size;have aa:=H (CG cn W E P rfl);have ac:=H (Ei hq E (P4 P));have Q:=H (ED (Z a0 (G f) c0) f T z2 (3+v) 0 Y Y);rw[show((3+v:Nat):Int)=3+(v:Int)by omega]at Q;clear s l F i g C;go_wp2_with fail;apply Q.o.m;rintro t w3 ⟨v3,rfl,V,q⟩;have u:=H (J.keptI q);have L:=H u.errOf;have m3:=H u.posOf;obtain⟨a3,z,ad⟩:=jp V;subst ad;go_wp2;go_roundw
       case rel=>exact⟨q2,_,e2,by simp only[ak,bI];omega,u,by rw[ak,bI];exact V,aa,T2.keptI q,gb.new R q⟩
       case measure=>rw[mr.o,me.o,L.o,m3.o];exact ac
      ·have a9:((m:Int)==17)=P2:=eB;go_wp2_with fail;apply(rL l 7 Y).m;rintro t w2 ⟨v,q2,e2,rfl,i,P,C,g⟩;have bf:v<128:=by simpa using C
       have T:=H (CQ s.2 l g);have T2:=H (s.1.kept g l);have R:=H (F.t g);have J:=H i;have z2:=R.o.size;have aa:=H (CH cn W E P Y);have ac:=H (Ei hq E (P4 P));have Q:=H (ED (Z a0 (G f) c0) f T z2 (11+v) 0 Y Y);rw[show((11+v:Nat):Int)=11+(v:Int)by omega]at Q;clear s l F i g C;go_wp2_with fail;apply Q.o.m;rintro t w3 ⟨v3,rfl,V,q⟩;have u:=H (J.keptI q);have L:=H u.errOf;have m3:=H u.posOf;obtain⟨a3,z,ad⟩:=jp V;subst ad;go_wp2;go_roundw
       case rel=>exact⟨q2,_,e2,by simp only[ak,bI];omega,u,by rw[ak,bI];exact V,aa,T2.keptI q,gb.new R q⟩
       case measure=>rw[mr.o,me.o,L.o,m3.o];exact ac
   ·have ao:¬(G f:Int)<n:=Y;by_cases ce:G f=n
    ·have a6:((G f:Int) != n)=P2:=eB;have CE:=H ce;clear ce;go_wp2;go_ret;refine⟨_,rfl,f,x,0,r,?_,λ_=>ow,K,kk⟩;have h1:=W.o;rw[o0 Y,ai CE.o]at h1;rw[<-h1];exact⟨rfl,rfl,rfl,hq⟩
    ·have a6:((G f:Int) != n)=PV:=eB;have al:=H (ro r 5 Y);have X:L1 (∀j,gb 5 B [b] wr j->jU j bt A D M):=λj k=>K.kept k r;go_wp2_with fail;apply al.o.m;rintro t w2 ⟨rfl,i,g⟩;rw[rz]at i;go_wp2;go_ret;refine⟨_,f,x,5,rfl,i,?_,λh=>absurd h Y,X _ g,kk.t g⟩;have h1:=W.o;rw[o0 Y,ah ce]at h1;rw[<-h1];rfl
  ·have b3:((5:Int)==0)=P2:=cO;subst hR;by_cases ce:G f=n
   ·have a6:((G f:Int) != n)=P2:=eB;have ao:¬(G f:Int)<n:=Y;go_wp2;go_ret;exact⟨_,rfl,f,x,5,r,rfl,λh=>absurd h Y,K,kk⟩
   ·have a6:((G f:Int) != n)=PV:=eB;have al:=H (ro r 5 Y);have X:L1 (∀j,gb 5 B [b] wr j->jU j bt A D M):=λj k=>K.kept k r;by_cases cn:G f<n
    ·have ao:(G f:Int)<n:=Y;go_wp2_with fail;apply al.o.m;rintro t w2 ⟨rfl,i,g⟩;rw[re Y]at i;go_wp2;go_ret;exact⟨_,f,x,5,rfl,i,rfl,λh=>absurd h Y,X _ g,kk.t g⟩
    ·have ao:¬(G f:Int)<n:=Y;go_wp2_with fail;apply al.o.m;rintro t w2 ⟨rfl,i,g⟩;rw[re Y]at i;go_wp2;go_ret;exact⟨_,f,x,5,rfl,i,rfl,λh=>absurd h Y,X _ g,kk.t g⟩
def JX(h:jx B b S a w p d c e)(g:e≠0){bt n:Nat}(x:n<=400)(y:0<n):K8 Qe 210 #[M2 (O ⟨b,0,N⟩),M2 (O ⟨bt,0,N⟩),I U n] w λk j=>∃v,k=Ps v/\jx B b S a j p d c e/\gb 5 B [b] w j:=by
 have f:=h.c4;have z:((0:Int) != n)=PV:=eB;have u:((e:Int)==0)=P2:=eB;have l:=H g;clear g
 go_in
 go_wp2;go_loopw [7] (λt wr=>t=Z N 0 0/\jx B b S a wr p d c e/\gb 5 B [b] w wr) (λ_ _=>0)
 case atStart=>exact⟨rfl,h,gb.refl _ _ _ _⟩
 clear h f
 case round=>obtain⟨rfl,r,s⟩:=hrel;have f:=r.c4;have m:=H (ro r 5 Y);clear r;go_wp2_with fail;apply m.o.m;rintro k A ⟨rfl,i,q⟩;rw[re l.o]at i;go_wp2;go_ret;exact⟨_,rfl,i,s.t q⟩
def Ou(h:jx B b S a w p d c e)(g:e≠0){window b1 b2:Nat} :
  K8 Qe 209 #[M2 (O ⟨b,0,N⟩),M2 (O ⟨b1,0,N⟩),M2 (O ⟨b2,0,N⟩),I U window] w λj f=>j=Ps (OW #[])/\jx B b S a f p d c e/\gb 5 B [b] w f:=by
 have l:((e:Int)==0)=P2:=eB;clear g
 go_in
 go_wp2;go_loopw [8] (λ_ wr=>jx B b S a wr p d c e/\gb 5 B [b] w wr) (λ_ _=>0)
 case atStart=>exact⟨h,gb.refl _ _ _ _⟩
 clear h
 case round=>
  obtain⟨r,i⟩:=hrel;have k:=r.c4;go_wp2
  go_end0
  exact⟨rfl,r,i⟩
end
def lQ:List Nat:=[16,17,18,0,8,7,9,6,10,5,11,4,12,3,13,2,14,1,15]
def k_(r:List Bool):Nat->List Nat
 |0=>Qf 19 0
 |a+1=>(k_ r a).set (nth lQ a) (gw ((r.drop (3*a)).take 3))
def iX(a:List Nat):Nat:=jG (λk=>a.count k) 15
def iq(r:List Bool):Nat:=257+gw (r.take 5)
def lR(r:List Bool):Nat:=1+gw ((r.drop 5).take 5)
def kQ(r:List Bool):Nat:=4+gw ((r.drop 10).take 4)
def ix(r:List Bool):Option (List Bool×List Nat):=
 if (G r)<14 then N
 else if 286<iq r\/30<lR r then N
 else if (G r)<14+3*kQ r then N
 else if iX (k_ (r.drop 14) (kQ r))≠32768 then N
 else i9 (cz (k_ (r.drop 14) (kQ r))) (gz (k_ (r.drop 14) (kQ r))) (iq r+lR r) (r.drop (14+3*kQ r)) []
def jA(a:List Nat)(b:Nat):Prop:=iX (a.take b)=32768/\nth a 256≠0/\(iX (a.drop b)=32768\/iX (a.drop b)=0\/(iX (a.drop b)=16384/\∀c∈a.drop b,c<2))
def zD{i m:List Nat}{r p:List Bool}{c g:List Nat}(h:gZ i m r c=O (p,g))(e:∀b∈c,b<16):∀b∈g,b<16:=by
 have n:nth c (G c-1)<16:=by
  unfold nth;rw[ax];by_cases j:G c-1<G c;·rw[af j];exact e _ (cq j)
  ·rw[List.getElem?_eq_none Y];decide
 unfold gZ at h;cases l:gN i m r with
 |none=>rw[l]at h;cases h
 |some b=>
  obtain⟨s,q⟩:=b;rw[l]at h;simp only[]at h;split at h
  ·cases h;intro b a;rcases bG.1 a with a|a;·exact e b a
   ·simp at a;omega
  split at h;·cases h
  have d:∀(k f:Nat),f<16->∀b∈c++Qf k f,b<16:=λk f o b a=>by
   rcases bG.1 a with a|a;·exact e b a
   ·rw[List.eq_of_mem_replicate a];exact o
  split at h
  ·split at h;·cases h;exact d _ _ n
   ·cases h
  split at h
  ·split at h;·cases h;exact d _ _ cO
   ·cases h
  split at h;·cases h;exact d _ _ cO
  ·cases h
def wP(f i:List Nat)(c:Nat):∀k r b d a,(∀e∈b,e<16)->jn f i c k r b=O (d,a)->G a=c/\∀e∈a,e<16
 |0,_,_,_,_,_,h=>by simp[jn]at h
 |k+1,r,b,d,a,g,h=>by
  simp only[jn]at h;split at h
  ·split at h;·rename_i h1;cases h;exact⟨h1,g⟩
   ·cases h
  ·split at h;·cases h
   ·rename_i j;exact wP f i c k _ _ d a (zD j g) h
def n8{c e:List Nat}{b:Nat}{r d:List Bool}{a:List Nat}(h:i9 c e b r []=O (d,a)):G a=b/\∀f∈a,f<16:=
 wP c e b _ r [] d a eA h
section
variable{S:ByteArray}{p:Nat}
def vU(S:ByteArray)(p c d e b a:Nat):Prop:=
 (a=0/\257+c=iq (gC S p)/\1+d=lR (gC S p)/\4+e=kQ (gC S p)/\b=p+14/\b<=8*S.size/\257+c<=286/\1+d<=30)\/(a=5/\ix (gC S p)=N)
def M3{b d g l e1 m e2 i f e4:Nat}(h1:tR S 5 p 0 b l e1)(h2:tR S 5 l e1 d m e2)(h3:tR S 4 m e2 g i f)(e:e4=if 286<257+b\/30<1+d then nE 5 f else f):vU S p b d g i e4:=by
 have h:f=5->(gC S p).length<14->vU S p b d g i e4:=λo q=>by
  subst o;refine P4 ⟨?_,?_⟩
  ·rw[e];split;·exact re Y
   ·rfl
  ·unfold ix;rw[ai q]
 rcases h1 with⟨a,_⟩|⟨_,r,u,rfl,rfl⟩|⟨_,r,_,rfl,rfl⟩;·exact absurd rfl a
 ·rcases h2 with⟨a,_⟩|⟨_,s,v,rfl,rfl⟩|⟨_,s,_,rfl,rfl⟩;·exact absurd rfl a
  ·rcases h3 with⟨a,_⟩|⟨_,t,w,rfl,rfl⟩|⟨_,t,_,rfl,rfl⟩;·exact absurd rfl a
   ·have j:257+b=iq (gC S p):=by unfold iq;rw[u]
    have k:1+d=lR (gC S p):=by unfold lR;rw[v,sS]
    have n:4+g=kQ (gC S p):=by unfold kQ;rw[w,sS]
    by_cases c:286<257+b\/30<1+d
    ·rw[ai c,rz]at e;refine P4 ⟨e,?_⟩;unfold ix;rw[<-j,<-k,ah eC,ai c]
    ·rw[ah c]at e;exact P3 ⟨e,j,k,n,Y,Y,Y,Y⟩
   ·exact h rfl eC
  ·rcases h3 with⟨_,_,rfl,rfl⟩|⟨a,_⟩|⟨a,_⟩;·exact h rfl eC
   ·omega
   ·omega
 ·rcases h2 with⟨_,_,rfl,rfl⟩|⟨a,_⟩|⟨a,_⟩
  ·rcases h3 with⟨_,_,rfl,rfl⟩|⟨a,_⟩|⟨a,_⟩;·exact h rfl eC
   ·omega
   ·omega
  ·omega
  ·omega
def uq(S:ByteArray)(p e f c b:Nat)(g:List Nat)(d a:Nat):Prop:=
 (a=0/\257+e=iq (gC S p)/\1+f=lR (gC S p)/\c=kQ (gC S p)/\d=p+14+3*b/\d<=8*S.size/\257+e<=286/\1+f<=30/\g=k_ (gC S (p+14)) b)\/(a=5/\ix (gC S p)=N)
def vU.toB{c d e b a:Nat}(h:vU S p c d e b a):uq S p c d (4+e) 0 (Qf 19 0) b a:=by
 rcases h with⟨h1,h2,h3,f,k,g,i,j⟩|h;·exact P3 ⟨h1,h2,h3,f,Y,g,i,j,rfl⟩
 ·exact P4 h
def uq.step{i j c a q d v q' e':Nat}{g:List Nat}(h:uq S p i j c a g q d)(t:a<c)(e:tR S 3 q d v q' e'):uq S p i j c (a+1) (g.set (nth lQ a) v) q' e':=by
 rcases h with⟨rfl,h2,h3,k,l,s,m,n,o⟩|⟨rfl,h2⟩
 ·rcases e with⟨b,_⟩|⟨_,f,r,rfl,rfl⟩|⟨_,f,_,rfl,rfl⟩;·exact absurd rfl b
  ·refine P3 ⟨rfl,h2,h3,k,Y,f,m,n,?_⟩;rw[o,r,l];simp only[k_,sS]
  ·refine P4 ⟨rfl,?_⟩;unfold ix;split;·rfl
   split;·rfl
   rw[ai eC]
 ·rcases e with⟨_,_,rfl,rfl⟩|⟨b,_⟩|⟨b,_⟩;·exact P4 ⟨rfl,h2⟩
  ·omega
  ·omega
def EU(S:ByteArray)(p b e:Nat)(a:List Nat)(d c:Nat):Prop:=
 (c=0/\257+b=iq (gC S p)/\d<=8*S.size/\257+b<=286/\1+e<=30/\iX a=32768/\i9 (cz a) (gz a) (257+b+(1+e)) (gC S d) []=ix (gC S p))\/(c=5/\ix (gC S p)=N)
def uq.toC{i j c f g e e':Nat}{a:List Nat}{n:List (Int×Int)}(h:uq S p i j c c a f g)(v:pA a n e)(b:e'=if e=32768 then g else nE 5 g):EU S p i j a f e':=by
 rcases h with⟨rfl,h2,h3,o,x,q,r,s,t⟩|⟨rfl,h2⟩
 ·have u:(gC S p).drop 14=gC S (p+14):=by rw[sS]
  have m:ix (gC S p)=if iX a≠32768 then N else i9 (cz a) (gz a) (257+i+(1+j)) (gC S f) []:=by unfold ix;rw[<-h2,<-h3,<-o,u,<-t,ah eC,ah Y,ah eC,sS,show p+(14+3*c)=f by omega]
  have l:e=32768↔iX a=32768:=by
   rcases v with⟨k,_⟩|⟨k,w⟩;·rw[k];exact Iff.rfl
   ·unfold iX;constructor<;>intro h<;>omega
  by_cases d:e=32768
  ·rw[ai d]at b;have:=l.1 d;refine P3 ⟨b,h2,q,r,s,this,?_⟩;rw[m,ah (by simp[this])]
  ·rw[ah d,rz]at b;refine P4 ⟨b,?_⟩;rw[m,ai (λh=>d (l.2 h))]
 ·refine P4 ⟨?_,h2⟩;rw[b];split;·rfl
  ·exact re Y
end
section
variable{B C t D z y:Nat}{d:List Nat}{m:Nat}{b:List GI}{w:Gr}{p F left a:Nat}{E:GI}{A:List Nat}
def sX(e:List Nat)(k:Nat)(c:Int):Prop:=c*2^(15-k)+(jG (λf=>nth e f) k:Nat)=32768 /\ -(1000*(2^k-1))<=c/\c<=2^k
def sX.step{c:List Nat}{k:Nat}{e:Int}(h:sX c k e)(l:k<15)(j:nth c (k+1)<=1000):sX c (k+1) (2*e-(nth c (k+1):Nat)):=by
 obtain⟨h1,h2,h3⟩:=h;have e1:(2:Int)^(15-k)=2*2^(14-k):=by rw[show 15-k=(14-k)+1 by omega,Int.pow_succ];omega
 have e2:(2:Int)^(k+1)=2*2^k:=by rw[Int.pow_succ];omega
 have i:((jG (λg=>nth c g) (k+1):Nat):Int)=(jG (λg=>nth c g) k:Nat)+(nth c (k+1):Nat)*2^(14-k):=by rw[jG];simp
 refine⟨?_,?_,?_⟩
 ·rw[i,show 15-(k+1)=14-k by omega];rw[e1]at h1;generalize (2:Int)^(14-k)=f at *;rw[Int.sub_mul,Int.mul_assoc 2 e f];rw[show e*(2*f)=2*(e*f)by rw[<-Int.mul_assoc,Int.mul_comm e 2,Int.mul_assoc]]at h1;omega
 ·rw[e2];generalize (2:Int)^k=f at *;omega
 ·rw[e2];generalize (2:Int)^k=f at *;omega
def Fg(n v:Nat)(g W:List Nat)(R:Cd w n v g W)(q:∀u,u<16->nth g u<=1000):K8 Qe 280 #[M2 (O ⟨n,v,N⟩)] w λe w'=>e=Ps (OV (decide (jG (λh=>nth g h) 15=32768)))/\w'=w:=by
 obtain⟨r,_⟩:=R;have J:=H r;have x:=H q;clear r q
 go_in
 go_wp2;go_loopw [3,4] (λX l wr=>∃(k:Nat) (f:Int),k<=15/\X=I U f/\l=I U (k+1:Nat)/\L1 (sX g k f)/\(-33000000<=f/\f<=33000)/\wr=w) (λ_ l _=>16-(intOf l).toNat)
 case atStart=>exact⟨0,1,Y,rfl,rfl,⟨by simp[jG],eA,eA⟩,Y,rfl⟩
 case round=>
  obtain⟨k,f,hk,rfl,rfl,i,hb,rfl⟩:=hrel;by_cases c:k<15
  ·have M:((k+1:Nat):Int)<=15:=Y;have ac:=J.o (k+1) Y;have T:=x.o (k+1) Y;have j:=i.o.step c T;have K:=H j;have S : -33000000<=2*f-(nth g (k+1):Nat)/\2*f-(nth g (k+1):Nat)<=33000:=by obtain⟨_,P,Q⟩:=j;have hp:(2:Nat)^(k+1)<=2^15:=aJ Y Y;have ad:((2^(k+1):Nat):Int)<=32768:=Y;rw[show((2:Int)^(k+1))=((2^(k+1):Nat):Int)by simp]at P Q;generalize ((2^(k+1):Nat):Int)=aa at *;omega
   generalize nth g (k+1)=L at *;clear j i;go_wp2;go_roundw
   case rel=>exact⟨k+1,2*f-(L:Nat),Y,by first|rfl|go_num,by go_num,K,S,by first|trivial|rfl⟩
   case measure=>simp[intOf];omega
  ·have M:¬((k+1:Nat):Int)<=15:=Y;obtain rfl:k=15:=Y;have s:f=32768-(jG (λh=>nth g h) 15:Nat):=by have:=i.o.1;simp at this;omega
   have V:(f==0)=decide (jG (λh=>nth g h) 15=32768):=by rw[s,bC];simp;omega
   clear s i;go_wp2;go_ret;exact⟨by rw[<-V];rfl,rfl⟩
def zp(i k:Nat)(h e:List Nat)(n:Cd w i k h e)(K:G e<=1000)(x:nth h 1<=1000):K8 Qe 281 #[M2 (O ⟨i,k,N⟩)] w λl s=>l=Ps (OV (decide (G e=nth h 1/\G e<=1)))/\∃o,s=w.drewN o:=by
 obtain⟨j,v,c,J,_⟩:=n;have u:=j 1 Y;clear j;generalize nth h 1=g at *;by_cases t1:G e=g
 ·have q:((G e:Int)==(g:Int))=PV:=eB;by_cases L:G e<=1
  ·have r:decide ((G e:Int)<=1)=PV:=eB;have f:decide (G e=g/\G e<=1)=PV:=by simp[t1];omega
   rw[f];clear t1 f
   go_in
   go_wp2_with fail;go_quiet (fail);go_wp2;go_ret;exact⟨rfl,nq,rfl⟩
  ·have r:decide ((G e:Int)<=1)=P2:=eB;have f:decide (G e=g/\G e<=1)=P2:=eB;rw[f];clear t1 f
   go_in
   go_wp2_with fail;go_quiet (fail);go_wp2;go_ret;exact⟨rfl,nq,rfl⟩
 ·have q:((G e:Int)==(g:Int))=P2:=eB;have f:decide (G e=g/\G e<=1)=P2:=eB;rw[f];clear t1 f
  go_in
  go_wp2_with fail;go_quiet (fail);go_wp2;go_ret;exact⟨rfl,nq,rfl⟩
def Fl.keptI{q:List Bool}{r:Gr}{j:Nat}(h:Fl B C t D z y d m b w q a E A)(k:gb 3 j [] w r)(J:D<j):Fl B C t D z y d m b r q a E A:=by
 obtain⟨p,F,left,x,M,P⟩:=h;obtain⟨⟨S,W,X,r4,r5,r6,r7,r8,r9,T,V⟩,h2,h3,u,v⟩:=x;refine⟨p,F,left,⟨⟨S,W,k.block C _ eA X (P4 wg),?_,?_,r6,r7,r8,r9,T,V⟩,h2,k.block t _ eA h3 (P4 wg),u,v⟩,M,P⟩
 ·intro Q L;have g:=r4 Q L;obtain⟨f,o⟩:∃f,w.heap[D]?=O f:=by
   cases h:w.heap[D]? with
   |some f=>exact⟨f,rfl⟩
   |none=>simp[World.cell?,h]at g
  have ho2:=k.block D f eA o (P3 J);rw[<-g];simp[World.cell?,o,ho2]
 ·obtain⟨R,i⟩:=r5;refine⟨R,?_⟩;rcases i with i|⟨n,c,s,e1,e2,K,g⟩;·exact P3 i
  ·exact P4 ⟨n,c,s,e1,e2,k.block n _ eA K (P4 wg),g⟩
def uG{x:List Bool}{o:Gr}{g l:Nat}{n:GI}{q:List GI}(h:w.ownsRow g 3 1 n l q)(r:Fl B C t D z y d m b w x a E A)(k:gb 5 B [C,t] w o):o.ownsRow g 3 1 n l q:=by
 obtain⟨h1,h2⟩:=h;refine⟨h1,?_⟩;rcases h2 with h2|⟨i,c,s,e1,e2,f,v⟩;·exact P3 h2
 ·refine P4 ⟨i,c,s,e1,e2,k.block i _ ?_ f (P4 (by intro c J u;simp at u)),v⟩;obtain⟨p,F,left,j,_,_⟩:=r;intro e;rcases cQ.1 e with rfl|e;·rw[j.rd.blk]at f;simp at f
  ·rcases cQ.1 e with rfl|e;·rw[j.blk]at f;simp at f
   ·cases e
def Mx{j:Nat}{f c:List Nat}(v:ld f 15<=G c)(u:G c<=1000){r:List Bool}{g:Nat}{l:GI}{i:List Nat}
  (q:∀e r,Fl B C t D z y d m b e r a E A->gb 5 B [C,t] w e->Cd e j 0 f c) (h:Fl B C t D z y d m b w r a E A) (J:w.ownsRow g 3 1 l (G i) (gL i)) (M:g<=w.heap.size) (Q:D<g) (P:G i<=1000) (s:gN f c r=N):K8 Qe 316 #[M2 (O ⟨t,0,N⟩),l,M2 (O ⟨j,0,N⟩)] w λk e=>k=gU 5/\gb 5 B [C,t] w e:=by
 obtain⟨K,L,rfl⟩:=jp J;have n:=H (GR j 0 f c v u q s h)
 go_in
 go_wp2_with fail;apply n.o.m;rintro k R ⟨rfl,x⟩;exact⟨rfl,rfl,x⟩
def Ej{c:Nat}{L:List Nat}{f:Gr}{h:List Bool}{X T:Nat}(l:Fl B C t D z y d m b f h a E A)(n:gb 5 B [C,t] w f)(o:D<c)(g:GI)(e:Gr)(q:e.ownsRow c 3 1 g (G L+T) (gL (L++Qf T X)))(k:gb 3 c [] f e):∃i,Ps g=Ps i/\e.ownsRow c 3 1 i (G L+T) (gL (L++Qf T X))/\Fl B C t D z y d m b e h a E A/\∃j,gb 5 B [C,t] w j/\gb 3 c [] j e :=
 ⟨g,rfl,q,l.keptI k o,f,n,k⟩
def zG{n:Nat}{k j:List Nat}(a7:ld k 15<=G j)(a6:G j<=1000){r:List Bool}{g:Nat}{S:GI}{c:List Nat}
  (hC:∀i r,Fl B C t D z y d m b i r a E A->gb 5 B [C,t] w i->Cd i n 0 k j) (h:Fl B C t D z y d m b w r a E A) (Q:w.ownsRow g 3 1 S (G c) (gL c)) (hB:g<=w.heap.size) (a3:D<g) (hL:G c<=1000) {f:Nat} {R:List Bool} (hs:gN k j r=O (f,R)) (bm:f<16):K8 Qe 316 #[M2 (O ⟨t,0,N⟩),S,M2 (O ⟨n,0,N⟩)] w λK i=>∃V,K=Ps V/\i.ownsRow g 3 1 V (G c+1) (gL (c++Qf 1 f))/\Fl B C t D z y d m b i R a E A/\∃W,gb 5 B [C,t] w W/\gb 3 g [] W i:=by
 obtain⟨x,J,rfl⟩:=jp Q;have ac:=H (q8 n 0 k j a7 a6 hC hs h);have bd:((f:Int)==16)=P2:=eB;have bf:((f:Int)==17)=P2:=eB;have bi:((f:Int)==18)=P2:=eB;obtain⟨i0,hi,a9,ba,bb⟩:=bu infoInt;have ad:=H Q
 go_in
 go_wp2_with fail;apply ac.o.m;rintro K ao ⟨rfl,f1,q⟩;have al:=H (uG ad h q);have aa:=H (Ej (L:=c) (X:=f) (T:=1) f1 q a3);have hW:=aA hB q.size;go_wp2;go_loopw [1,49] (λvl u wr=>∃e:Nat,e<=1/\u=I U e/\wr.ownsRow g 3 1 vl (G c+e) (gL (c++Qf e f))/\gb 3 g [] ao wr) (λ_ u _=>1-(intOf u).toNat)
 case atStart=>exact⟨0,aH _,rfl,by simpa using al.o,gb.refl _ _ _ _⟩
 case round=>
  obtain⟨e,hj,rfl,P,M⟩:=hrel;have bo:=M.size;obtain⟨x,J,rfl⟩:=jp P;have l:=H P;have v:=H M;by_cases cj:e<1
  ·have a1:(e:Int)<1:=Y;go_wp2_with (at_builtin;refine a_ _ rfl (.tmp 51) (.tmp 53) 52 rfl g 3 i0 (I U 0) 1 8 cG hi a9 ba bb rfl cO (Z x (G c+e) J) (G c+e) _ rfl (l.alloc _) ⟨wr.heap.size,0,N⟩ 1 1 [I U f] rfl rfl ?hnews ?hone ?h63 ?hby ?hbs ?_)
   case hnews=>exact Bm
   case hone=>intro bq L;simp at L;subst L;rfl
   case h63=>unfold maxLen;omega
   case hby=>omega
   case hbs=>simp;omega
   intro v2 w2 s a5 _;have K2:=H ((v.alloc _).grown a5 (tN (l.alloc _)));have a4:gL (c++Qf e f)++[I U f]=gL (c++Qf (e+1) f):=by rw[List.replicate_succ',<-bZ];simp[gL]
   rw[a4]at s;have O2:=H s;obtain⟨a2,c2,a8⟩:=jp s;subst a8;go_wp2;go_roundw
   case rel=>exact⟨e+1,Y,by go_num,O2,K2⟩
   case measure=>simp[intOf];omega
  ·obtain rfl:e=1:=Y;have a1:¬((1:Nat):Int)<1:=Y;go_wp2;go_ret;exact aa _ _ l v
def Mw{j:Nat}{g e:List Nat}(x:ld g 15<=G e)(v:G e<=1000){r:List Bool}{i:Nat}{l:GI}{f:List Nat}
  (s:∀c r,Fl B C t D z y d m b c r a E A->gb 5 B [C,t] w c->Cd c j 0 g e) (h:Fl B C t D z y d m b w r a E A) (K:w.ownsRow i 3 1 l (G f) (gL f)) (S:i<=w.heap.size) (V:D<i) (T:G f<=1000) {L:List Bool} (u:gN g e r=O (16,L)) (q:G f=0):K8 Qe 316 #[M2 (O ⟨t,0,N⟩),l,M2 (O ⟨j,0,N⟩)] w λk c=>k=gU 5/\gb 5 B [C,t] w c:=by
 obtain⟨P,Q,rfl⟩:=jp K;have n:=H (q8 j 0 g e x v s u h);rw[q]
 go_in
 go_wp2_with fail;apply n.o.m;rintro k M ⟨rfl,R,J⟩;go_wp2_with fail;apply(mn _ rfl _).m;rintro k c ⟨rfl,rfl⟩;exact⟨rfl,rfl,J⟩
def EW(g c f:Nat)(h:Array Bool)(e:Gr):Prop:=e.cell? ⟨g,c,N⟩=O (I U f)
def Fc{v:List Bool}{o:Gr}{f h:Nat}{n:GI}{q:Array GI}{i:Nat×Nat}(e:w.heap[f]?=O (Pp q 3 i))(r:Fl B C t D z y d m b w v a E A)(k:gb 5 B [C,t] w o)(l:w.cell? ⟨f,h,N⟩=O n):o.cell? ⟨f,h,N⟩=O n:=by
 have u:f∉[C,t]:=by
  obtain⟨p,F,left,j,_,_⟩:=r;intro g;rcases cQ.1 g with rfl|g;·rw[j.rd.blk]at e;simp at e
  ·rcases cQ.1 g with rfl|g;·rw[j.blk]at e;simp at e
   ·cases g
 have h2:=k.block f _ u e (P4 (by intro c i s;simp at s));rw[iI e]at l;rw[iI h2];exact l
def Mu{J:Nat}{q l:List Nat}(ac:ld q 15<=G l)(aa:G l<=1000){r:List Bool}{x:Nat}{L:GI}{g:List Nat}
  (R:∀j r,Fl B C t D z y d m b j r a E A->gb 5 B [C,t] w j->Cd j J 0 q l) (h:Fl B C t D z y d m b w r a E A) (v:w.ownsRow x 3 1 L (G g) (gL g)) (hB:x<=w.heap.size) (a1:D<x) (hL:G g<=1000) {X:List Bool} (W:gN q l r=O (16,X)) (h0:0<G g) (h2:G X<2):K8 Qe 316 #[M2 (O ⟨t,0,N⟩),L,M2 (O ⟨J,0,N⟩)] w λs j=>s=gU 5/\gb 5 B [C,t] w j:=by
 obtain⟨u,oc,hv,_⟩:=uH v h0;subst hv;obtain⟨f,S⟩:∃f,G g=f+1:=⟨G g-1,Y⟩;have HM:=H S;have k:=v.cellAt f Y;rw[show(gL g)[f]?=O (I U (nth g f:Nat))from ig g f Y]at k;have k:w.cell? ⟨u,f,N⟩=O (I U (nth g f:Nat)):=by simpa using k
 obtain⟨n,T⟩:∃n,nth g f=n:=⟨_,rfl⟩;rw[T]at k;have M:=H (q8 J 0 q l ac aa R W h);clear W;obtain⟨_,al,fz,V⟩:=tN v u rfl
 go_in
 go_wp2_with fail;apply M.o.m;rintro s P ⟨rfl,Q,K⟩;have ad:=Fc V h K k;have HB:=H (v_ (w:=P.drew) 2 Y h2 Q.drew);have K1:=H K;clear k V h Q K M R v T;have ao:(f:Int)<G g:=Y;have a0:(0:Int)<=(f:Int):=Y;clear S;go_wp2_with (go_at_call 163;apply(nT _).m;rintro s j ⟨rfl,rfl⟩);refine om (EW u f n) aG ?_;intro c;have e:EW u f n (Array.replicate 13 P2) j.drew:=ad;refine tm 0 c e λc e=>?_;refine tm 1 c e λc e=>?_;refine tm 2 c e λc e=>?_;refine tK (i:=3) (v:=I U (f:Nat)) rfl aG aG aG (λ_ _ _ h=>h) (λ_ _ h=>h) (λ_ _ h=>h) c (P3 ⟨by rfl,?_⟩) e ?_;·intro P hW;go_simp;rw[aU];have:=HM.o;omega
 clear c e;intro c e;(try simp only[nH])
 refine tm 4 c e λc e=>?_;refine tm 5 c e λc e=>?_;refine tm 6 c e λc e=>?_;refine tm 7 c e λc e=>?_;refine tm 8 c e λc e=>?_;refine on 9 c λK' hK=>?_;go_simp;apply HB.o.m;rintro s w2 ⟨rfl,k2⟩;exact⟨rfl,rfl,(K1.drew).t k2⟩
def Mt{bc:Nat}{S M:List Nat}(bm:ld S 15<=G M)(bi:G M<=1000){r:List Bool}{l:Nat}{a5:GI}{e:List Nat}
  (hC:∀q r,Fl B C t D z y d m b q r a E A->gb 5 B [C,t] w q->Cd q bc 0 S M) (h:Fl B C t D z y d m b w r a E A) (L:w.ownsRow l 3 1 a5 (G e) (gL e)) (hB:l<=w.heap.size) (bb:D<l) (hL:G e<=1000) {n:List Bool} (hs:gN S M r=O (16,n)) (h0:0<G e) (h2:2<=G n):K8 Qe 316 #[M2 (O ⟨t,0,N⟩),a5,M2 (O ⟨bc,0,N⟩)] w λu q=>∃v',u=Ps v'/\q.ownsRow l 3 1 v' (G e+(3+gw (n.take 2))) (gL (e++Qf (3+gw (n.take 2)) (nth e (G e-1))))/\Fl B C t D z y d m b q (n.drop 2) a E A/\∃wm,gb 5 B [C,t] w wm/\gb 3 l [] wm q:=by
 obtain⟨v,oc,hv,_⟩:=uH L h0;subst hv;obtain⟨g,hM⟩:∃g,G e=g+1:=⟨G e-1,Y⟩;have x:=L.cellAt g Y;rw[show(gL e)[g]?=O (I U (nth e g:Nat))from ig e g Y]at x;have x:w.cell? ⟨v,g,N⟩=O (I U (nth e g:Nat)):=by simpa using x
 obtain⟨j,hX⟩:∃j,nth e g=j:=⟨_,rfl⟩;rw[hX]at x;have al:=H (q8 bc 0 S M bm bi hC hs h);clear hs;obtain⟨_,a9,fz,s⟩:=tN L v rfl;obtain⟨i0,hi,bs,bt,bv⟩:=bu infoInt;have a3:G e-1=g:=Y;rw[a3,hX];have bq:gw (n.take 2)<4:=by have:=jk (n.take 2);rw[ay,b_ h2]at this;exact this
 obtain⟨R,hV⟩:∃R,gw (n.take 2)=R:=⟨_,rfl⟩;rw[hV]at bq ⊢;obtain⟨i,hT⟩:∃i,3+R=i:=⟨_,rfl⟩;rw[hT];have a1:=H L;clear L
 go_in
 go_wp2_with fail;apply al.o.m;rintro u P ⟨rfl,T,J⟩;have br:=Fc s h J x;have X:=H (uG a1 h J);have a4:P.heap[v]?=O (Pp a9 3 fz):=by
  obtain⟨q1,q2⟩:=X.o;refine J.block v _ ?_ s (P4 (by intro c fz u;simp at u));obtain⟨p,F,left,hb,_,_⟩:=h;intro K;rcases cQ.1 K with rfl|K;·rw[hb.rd.blk]at s;simp at s
  ·rcases cQ.1 K with rfl|K;·rw[hb.blk]at s;simp at s
   ·cases K
 have HB:=H (sN (w:=P.drew) 2 Y h2 T.drew);rw[hV]at HB;have ad:L1 (∀Q,gb 5 B [C,t] P.drew Q->Q.cell? ⟨v,g,N⟩=O (I U (j:Nat))/\Q.ownsRow l 3 1 (Z (O ⟨v,0,N⟩) (G e) oc) (G e) (gL e)):=λQ k=>⟨Fc (w:=P.drew) a4 T.drew k br,uG (w:=P.drew) X T.drew k⟩;have ba:=aA hB J.size;have K1:=H J;clear x s h T J al hC a1 X hX hV a3 a4;have eM:IntKind.i64.wrap ((G e:Int)-1)=(g:Int):=by rw[aU];omega
 have bw:(g:Int)<G e:=Y;have bx:(0:Int)<=(g:Int):=Y;have ao:=H hT;clear hM hT;go_wp2_with (go_at_call 163;apply(nT _).m;rintro u q ⟨rfl,rfl⟩);go_region_with (go_at_call 221;apply HB.o.m;rintro u aa ⟨rfl,f2,V⟩;have b1:=(ad aa V).1);all_goals (
  have a7:=H (ad aa V).2;have KW:=H ((K1.drew).t V);have a6:=H (Ej (L:=e) (X:=j) (T:=i) f2 KW bb);have hW:=aA ba V.size;have bz:i<=300:=by have:=ao.o;omega
  go_wp2;rw[show(3:Int)+(R:Int)=(i:Nat)by have:=ao.o;omega];go_loopw [1,49] (λvl vi wr=>∃f:Nat,f<=i/\vi=I U f/\wr.ownsRow l 3 1 vl (G e+f) (gL (e++Qf f j))/\gb 3 l [] aa wr) (λ_ vi _=>i-(intOf vi).toNat)
  case atStart=>exact⟨0,aH _,rfl,by simpa using a7.o,gb.refl _ _ _ _⟩
  case round=>
   obtain⟨f,hj,rfl,ow,kk⟩:=hrel;have b0:=kk.size;obtain⟨a0,c0,rfl⟩:=jp ow;have W:=H ow;have KK:=H kk;by_cases cj:f<i
   ·have a8:(f:Int)<i:=Y;go_wp2_with (at_builtin;refine a_ _ rfl (.tmp 51) (.tmp 53) 52 rfl l 3 i0 (I U 0) 1 8 cG hi bs bt bv rfl cO (Z a0 (G e+f) c0) (G e+f) _ rfl (W.alloc _) ⟨wr.heap.size,0,N⟩ 1 1 [I U j] rfl rfl ?hnews ?hone ?h63 ?hby ?hbs ?_)
    case hnews=>exact Bm
    case hone=>intro b2 hu;simp at hu;subst hu;rfl
    case h63=>unfold maxLen;omega
    case hby=>omega
    case hbs=>simp;omega
    intro v2 Q ac bf _;have K2:=H ((KK.alloc _).grown bf (tN (W.alloc _)));have bd:gL (e++Qf f j)++[I U j]=gL (e++Qf (f+1) j):=by rw[List.replicate_succ',<-bZ];simp[gL]
    rw[bd]at ac;have O2:=H ac;obtain⟨a2,c2,bo⟩:=jp ac;subst bo;go_wp2;go_roundw
    case rel=>exact⟨f+1,Y,by go_num,O2,K2⟩
    case measure=>simp[intOf];omega
   ·obtain rfl:f=i:=Y;have a8:¬(f:Int)<f:=Y;go_wp2;go_ret;exact a6 _ _ W KK)
def FD{j:Nat}{f c:List Nat}(K:ld f 15<=G c)(J:G c<=1000){r:List Bool}{g:Nat}{n:GI}{i:List Nat}
  (v:∀e r,Fl B C t D z y d m b e r a E A->gb 5 B [C,t] w e->Cd e j 0 f c) (h:Fl B C t D z y d m b w r a E A) (P:w.ownsRow g 3 1 n (G i) (gL i)) (S:g<=w.heap.size) (V:D<g) (T:G i<=1000) {l:List Bool} (x:gN f c r=O (17,l)) (h2:G l<3):K8 Qe 316 #[M2 (O ⟨t,0,N⟩),n,M2 (O ⟨j,0,N⟩)] w λk e=>k=gU 5/\gb 5 B [C,t] w e:=by
 obtain⟨Q,R,rfl⟩:=jp P;have s:=H (q8 j 0 f c K J v x h)
 go_in
 go_wp2_with fail;apply s.o.m;rintro k W ⟨rfl,u,L⟩;have q:=H (v_ 3 Y h2 u);go_wp2_with fail;apply q.o.m;rintro k X ⟨rfl,M⟩;exact⟨rfl,rfl,L.t M⟩
def Mz{x:Nat}{q l:List Nat}(bb:ld q 15<=G l)(ba:G l<=1000){r:List Bool}{g:Nat}{ac:GI}{c:List Nat}
  (hC:∀j r,Fl B C t D z y d m b j r a E A->gb 5 B [C,t] w j->Cd j x 0 q l) (h:Fl B C t D z y d m b w r a E A) (aa:w.ownsRow g 3 1 ac (G c) (gL c)) (hB:g<=w.heap.size) (a7:D<g) (hL:G c<=1000) {i:List Bool} (hs:gN q l r=O (17,i)) (h2:3<=G i):K8 Qe 316 #[M2 (O ⟨t,0,N⟩),ac,M2 (O ⟨x,0,N⟩)] w λK j=>∃v',K=Ps v'/\j.ownsRow g 3 1 v' (G c+(3+gw (i.take 3))) (gL (c++Qf (3+gw (i.take 3)) 0))/\Fl B C t D z y d m b j (i.drop 3) a E A/\∃wm,gb 5 B [C,t] w wm/\gb 3 g [] wm j:=by
 obtain⟨v,J,rfl⟩:=jp aa;have ao:=H (q8 x 0 q l bb ba hC hs h);obtain⟨i0,hi,bi,bm,bo⟩:=bu infoInt;have bf:gw (i.take 3)<8:=by have:=jk (i.take 3);rw[ay,b_ h2]at this;exact this
 obtain⟨n,hV⟩:∃n,gw (i.take 3)=n:=⟨_,rfl⟩;rw[hV]at bf ⊢;obtain⟨f,hT⟩:∃f,3+n=f:=⟨_,rfl⟩;rw[hT];have a3:=H aa
 go_in
 go_wp2_with fail;apply ao.o.m;rintro K w1 ⟨rfl,W,L⟩;have a1:=H (uG a3 h L);have R:=H (sN 3 Y h2 W);rw[hV]at R;have ad:L1 (∀s,gb 5 B [C,t] w1 s->s.ownsRow g 3 1 (Z v (G c) J) (G c) (gL c)):=λs k=>uG a1 W k;have a6:=aA hB L.size;have K1:=H L;have S:=H hT;go_wp2_with fail;apply R.o.m;rintro K V ⟨rfl,f2,M⟩;have a4:=H (ad V M);have KW:=H (K1.t M);have al:=H (Ej (L:=c) (X:=0) (T:=f) f2 KW a7);have hW:=aA a6 M.size;have bq:f<=300:=by have:=S.o;omega
 go_wp2;rw[show(3:Int)+(n:Int)=(f:Nat)by have:=S.o;omega];go_loopw [1,49] (λvl Q wr=>∃e:Nat,e<=f/\Q=I U e/\wr.ownsRow g 3 1 vl (G c+e) (gL (c++Qf e 0))/\gb 3 g [] V wr) (λ_ Q _=>f-(intOf Q).toNat)
 case atStart=>exact⟨0,aH _,rfl,by simpa using a4.o,gb.refl _ _ _ _⟩
 case round=>
  obtain⟨e,hj,rfl,ow,kk⟩:=hrel;have br:=kk.size;obtain⟨v,J,rfl⟩:=jp ow;have u:=H ow;have T:=H kk;by_cases cj:e<f
  ·have a5:(e:Int)<f:=Y;go_wp2_with (at_builtin;refine a_ _ rfl (.tmp 51) (.tmp 53) 52 rfl g 3 i0 (I U 0) 1 8 cG hi bi bm bo rfl cO (Z v (G c+e) J) (G c+e) _ rfl (u.alloc _) ⟨wr.heap.size,0,N⟩ 1 1 [I U 0] rfl rfl ?hnews ?hone ?h63 ?hby ?hbs ?_)
   case hnews=>exact Bm
   case hone=>intro bs hu;simp at hu;subst hu;rfl
   case h63=>unfold maxLen;omega
   case hby=>omega
   case hbs=>simp;omega
   intro v2 s P a9 _;have K2:=H ((T.alloc _).grown a9 (tN (u.alloc _)));have a8:gL (c++Qf e 0)++[I U 0]=gL (c++Qf (e+1) 0):=by rw[List.replicate_succ',<-bZ];simp[gL]
   rw[a8]at P;have O2:=H P;obtain⟨a2,c2,bd⟩:=jp P;subst bd;go_wp2;go_roundw
   case rel=>exact⟨e+1,Y,by go_num,O2,K2⟩
   case measure=>simp[intOf];omega
  ·obtain rfl:e=f:=Y;have a5:¬(e:Int)<e:=Y;go_wp2;go_ret;exact al _ _ u T
def MJ{j:Nat}{f c:List Nat}(K:ld f 15<=G c)(J:G c<=1000){r:List Bool}{g:Nat}{n:GI}{i:List Nat}
  (v:∀e r,Fl B C t D z y d m b e r a E A->gb 5 B [C,t] w e->Cd e j 0 f c) (h:Fl B C t D z y d m b w r a E A) (P:w.ownsRow g 3 1 n (G i) (gL i)) (S:g<=w.heap.size) (V:D<g) (T:G i<=1000) {l:List Bool} (x:gN f c r=O (18,l)) (h2:G l<7):K8 Qe 316 #[M2 (O ⟨t,0,N⟩),n,M2 (O ⟨j,0,N⟩)] w λk e=>k=gU 5/\gb 5 B [C,t] w e:=by
 obtain⟨Q,R,rfl⟩:=jp P;have s:=H (q8 j 0 f c K J v x h)
 go_in
 go_wp2_with fail;apply s.o.m;rintro k W ⟨rfl,u,L⟩;have q:=H (v_ 7 Y h2 u);go_wp2_with fail;apply q.o.m;rintro k X ⟨rfl,M⟩;exact⟨rfl,rfl,L.t M⟩
def mz{x:Nat}{q l:List Nat}(bb:ld q 15<=G l)(ba:G l<=1000){r:List Bool}{g:Nat}{ac:GI}{c:List Nat}
  (hC:∀j r,Fl B C t D z y d m b j r a E A->gb 5 B [C,t] w j->Cd j x 0 q l) (h:Fl B C t D z y d m b w r a E A) (aa:w.ownsRow g 3 1 ac (G c) (gL c)) (hB:g<=w.heap.size) (a7:D<g) (hL:G c<=1000) {i:List Bool} (hs:gN q l r=O (18,i)) (h2:7<=G i):K8 Qe 316 #[M2 (O ⟨t,0,N⟩),ac,M2 (O ⟨x,0,N⟩)] w λK j=>∃v',K=Ps v'/\j.ownsRow g 3 1 v' (G c+(11+gw (i.take 7))) (gL (c++Qf (11+gw (i.take 7)) 0))/\Fl B C t D z y d m b j (i.drop 7) a E A/\∃wm,gb 5 B [C,t] w wm/\gb 3 g [] wm j:=by
 obtain⟨v,J,rfl⟩:=jp aa;have ao:=H (q8 x 0 q l bb ba hC hs h);obtain⟨i0,hi,bi,bm,bo⟩:=bu infoInt;have bf:gw (i.take 7)<128:=by have:=jk (i.take 7);rw[ay,b_ h2]at this;exact this
 obtain⟨n,hV⟩:∃n,gw (i.take 7)=n:=⟨_,rfl⟩;rw[hV]at bf ⊢;obtain⟨f,hT⟩:∃f,11+n=f:=⟨_,rfl⟩;rw[hT];have a3:=H aa
 go_in
 go_wp2_with fail;apply ao.o.m;rintro K w1 ⟨rfl,W,L⟩;have a1:=H (uG a3 h L);have R:=H (sN 7 Y h2 W);rw[hV]at R;have ad:L1 (∀s,gb 5 B [C,t] w1 s->s.ownsRow g 3 1 (Z v (G c) J) (G c) (gL c)):=λs k=>uG a1 W k;have a6:=aA hB L.size;have K1:=H L;have S:=H hT;go_wp2_with fail;apply R.o.m;rintro K V ⟨rfl,f2,M⟩;have a4:=H (ad V M);have KW:=H (K1.t M);have al:=H (Ej (L:=c) (X:=0) (T:=f) f2 KW a7);have hW:=aA a6 M.size;have bq:f<=300:=by have:=S.o;omega
 go_wp2;rw[show(11:Int)+(n:Int)=(f:Nat)by have:=S.o;omega];go_loopw [1,49] (λvl Q wr=>∃e:Nat,e<=f/\Q=I U e/\wr.ownsRow g 3 1 vl (G c+e) (gL (c++Qf e 0))/\gb 3 g [] V wr) (λ_ Q _=>f-(intOf Q).toNat)
 case atStart=>exact⟨0,aH _,rfl,by simpa using a4.o,gb.refl _ _ _ _⟩
 case round=>
  obtain⟨e,hj,rfl,ow,kk⟩:=hrel;have br:=kk.size;obtain⟨v,J,rfl⟩:=jp ow;have u:=H ow;have T:=H kk;by_cases cj:e<f
  ·have a5:(e:Int)<f:=Y;go_wp2_with (at_builtin;refine a_ _ rfl (.tmp 51) (.tmp 53) 52 rfl g 3 i0 (I U 0) 1 8 cG hi bi bm bo rfl cO (Z v (G c+e) J) (G c+e) _ rfl (u.alloc _) ⟨wr.heap.size,0,N⟩ 1 1 [I U 0] rfl rfl ?hnews ?hone ?h63 ?hby ?hbs ?_)
   case hnews=>exact Bm
   case hone=>intro bs hu;simp at hu;subst hu;rfl
   case h63=>unfold maxLen;omega
   case hby=>omega
   case hbs=>simp;omega
   intro v2 s P a9 _;have K2:=H ((T.alloc _).grown a9 (tN (u.alloc _)));have a8:gL (c++Qf e 0)++[I U 0]=gL (c++Qf (e+1) 0):=by rw[List.replicate_succ',<-bZ];simp[gL]
   rw[a8]at P;have O2:=H P;obtain⟨a2,c2,bd⟩:=jp P;subst bd;go_wp2;go_roundw
   case rel=>exact⟨e+1,Y,by go_num,O2,K2⟩
   case measure=>simp[intOf];omega
  ·obtain rfl:e=f:=Y;have a5:¬(e:Int)<e:=Y;go_wp2;go_ret;exact al _ _ u T
def ET(B C t D z y:Nat)(d:List Nat)(m:Nat)(b:List GI)(a:Nat)(E:GI)(A:List Nat)(e:Nat)(w:Gr)(k:Option (List Bool×List Nat))(g:MB)(c:Gr):Prop:=match k with
 |some (j,f)=>∃h,g=Ps h/\c.ownsRow e 3 1 h (G f) (gL f)/\Fl B C t D z y d m b c j a E A/\∃i,gb 5 B [C,t] w i/\gb 3 e [] i c
 |none=>g=gU 5/\gb 5 B [C,t] w c
def MA{bc:Nat}{cs ss:List Nat}(o:ld cs 15<=G ss)(n:G ss<=1000){r:List Bool}{P:Nat}{V:GI}{M:List Nat}
  (i:∀J r,Fl B C t D z y d m b J r a E A->gb 5 B [C,t] w J->Cd J bc 0 cs ss) (h:Fl B C t D z y d m b w r a E A) (q:w.ownsRow P 3 1 V (G M) (gL M)) (g:P<=w.heap.size) (l:D<P) (j:G M<=1000) (W:∀s L,gN cs ss r=O (s,L)->s<=18) {T:Option (List Bool×List Nat)} (c:gZ cs ss r M=T):K8 Qe 316 #[M2 (O ⟨t,0,N⟩),V,M2 (O ⟨bc,0,N⟩)] w (ET B C t D z y d m b a E A P w T):=by
 unfold gZ at c;cases e:gN cs ss r with
 |none=>rw[e]at c;subst c;exact Mx o n i h q g l j e
 |some X=>
  obtain⟨s,L⟩:=X;have aa:=W s L e;rw[e]at c;simp only[]at c;by_cases Q:s<16
  ·rw[ai Q]at c;subst c;apply(zG o n i h q g l j e Q).m;rintro S J ⟨x,rfl,v,u,k⟩;exact⟨x,rfl,by simpa using v,u,k⟩
  rw[ah Q]at c;by_cases R:s=16
  ·subst R;by_cases K:G M=0
   ·rw[ai ⟨rfl,K⟩]at c;subst c;exact Mw o n i h q g l j e K
   ·rw[ah (λh=>K h.2),ai rfl]at c;by_cases f:2<=G L
    ·rw[ai f]at c;subst c;apply(Mt o n i h q g l j e Y f).m;rintro S J ⟨x,rfl,v,u,k⟩;exact⟨x,rfl,by rw[ak,bI];exact v,u,k⟩
    ·rw[ah f]at c;subst c;exact Mu o n i h q g l j e Y Y
  rw[ah (λh=>R h.1),ah R]at c;by_cases K:s=17
  ·subst K;rw[ai rfl]at c;by_cases f:3<=G L
   ·rw[ai f]at c;subst c;apply(Mz o n i h q g l j e f).m;rintro S J ⟨x,rfl,v,u,k⟩;exact⟨x,rfl,by rw[ak,bI];exact v,u,k⟩
   ·rw[ah f]at c;subst c;exact FD o n i h q g l j e Y
  rw[ah K]at c;obtain rfl:s=18:=Y;by_cases f:7<=G L
  ·rw[ai f]at c;subst c;apply(mz o n i h q g l j e f).m;rintro S J ⟨x,rfl,v,u,k⟩;exact⟨x,rfl,by rw[ak,bI];exact v,u,k⟩
  ·rw[ah f]at c;subst c;exact MJ o n i h q g l j e Y
end
def mq(r:List Bool)(a b:Nat):Option (List Bool×List Nat):=
 if (G r)<3*a then N
 else if iX (k_ r a)≠32768 then N
 else i9 (cz (k_ r a)) (gz (k_ r a)) b (r.drop (3*a)) []
def qM(b e:List Nat)(c k:Nat):Option (List Bool×List Nat)->Option (List Bool×List Nat)
 |none=>N
 |some (d,a)=>jn b e c k d a
def rI{b c:List Nat}{d k:Nat}{r:List Bool}{a:List Nat}(h:G a<d):jn b c d (k+1) r a=qM b c d k (gZ b c r a):=by
 rw[jn,ah Y];cases gZ b c r a with
 |none=>rfl
 |some e=>rfl
def mg(r:List Bool):ix r=if (G r)<14 then N else if 286<iq r\/30<lR r then N else mq (r.drop 14) (kQ r) (iq r+lR r):=by
 unfold ix mq;by_cases a:G r<14;·rw[ai a,ai a]
 rw[ah a,ah a];by_cases b:286<iq r\/30<lR r;·rw[ai b,ai b]
 rw[ah b,ah b,au,di];by_cases d:G r<14+3*kQ r
 ·have c:G r-14<3*kQ r:=Y;rw[ai d,ai c]
 ·have c:¬(G r)-14<3*kQ r:=Y;rw[ah d,ah c]
section
variable{B z y J C A:Nat}{d:List Nat}{most:Nat}{q:List GI}{w:Gr}{p E left m:Nat}{M:GI}{D:List Nat}
def oV(w:Gr):Prop:=∀a,a<19->w.cell? ⟨1,a,N⟩=O (I U (nth lQ a:Nat))
def Iz{l:TypeId}{c:Nat}{e:List Nat}{j:Gr}{a g:Nat}{i:GI}(h:w.cell? ⟨a,g,N⟩=O i)(k:gb l c e w j)(r:a<c)(o:a∉e):j.cell? ⟨a,g,N⟩=O i:=by
 obtain⟨b,f⟩:∃b,w.heap[a]?=O b:=by
  cases n:w.heap[a]? with
  |some b=>exact⟨b,rfl⟩
  |none=>simp[World.cell?,n]at h
 have ho2:=k.block a b o f (P3 r);rw[<-h];simp[World.cell?,f,ho2]
def oV.kept{e:TypeId}{a:Nat}{b:List Nat}{c:Gr}(h:oV w)(k:gb e a b w c)(g : 1<a)(f : 1∉b):oV c:=λj i=>Iz (h j i) k g f
def Fl.keptE{e:TypeId}(a:e ≠ 5/\e ≠ 141/\e ≠ 167){i:List Bool}{j:Gr}{B':Nat}(h:Fl B z y J C A d most q w i m M D)(k:gb e B' [] w j)(s:J<B'):Fl B z y J C A d most q j i m M D:=by
 obtain⟨p,E,left,r,x,F⟩:=h;obtain⟨⟨P,S,T,V,W,X,r7,r8,r9,Q,R⟩,h2,h3,n,o⟩:=r;refine⟨p,E,left,⟨⟨P,S,k.block z _ eA T (P4 (by intro c f e;simp at e;exact absurd e.2.1.s (by first|exact a.2.1|omega))),λK v=>Iz (V K v) k s eA,?_,X,r7,r8,r9,Q,R⟩,h2,k.block y _ eA h3 (P4 (by intro c f e;simp at e;exact absurd e.2.1.s (by first|exact a.2.2|omega))),n,o⟩,x,F⟩;obtain⟨L,b⟩:=W;refine⟨L,?_⟩;rcases b with b|⟨g,c,l,e1,e2,u,t⟩;·exact P3 b
 ·exact P4 ⟨g,c,l,e1,e2,k.block g _ eA u (P4 (by intro c f e;simp at e;exact absurd e.2.1.s (by first|exact a.1|omega))),t⟩
def Mf{g:TypeId}{a n f:Nat}{c:Array GI}{j:Nat×Nat}{o:GI}(l:w.heap[a]?=O (Pp c g j))(r:f<=a):gb g f [] w (w.setCell ⟨a,n,N⟩ o):=
 ⟨rfl,rfl,rfl,by simp[World.setCell],λk s _ e b=>by
  rw[dy _ _ _ _ (λh=>by
   have i:k=a:=h;subst i;rw[l]at e;rcases b with b|b;·omega
   ·exact b _ _ (dq e).s)]
  exact e⟩
structure Lr(w wr:Gr)(l:List Nat):Prop where
 row:wr.heap[w.heap.size]?=O (Pp (gL l).toArray 285 (0,0))
 len:G l=19
def Lr.kept{wr i:Gr}{g:List Nat}{r:List Bool}(h:Lr w wr g)(j:Fl B z y J C A d most q wr r m M D)(k:gb 5 B [z,y] wr i):Lr w i g:=by
 refine⟨k.block _ _ ?_ h.row (P4 (by intro c l a;simp at a)),h.len⟩;obtain⟨p,E,left,f,_,_⟩:=j;intro b;have e:=h.row;rcases cQ.1 b with a|b;·rw[a,f.rd.blk]at e;simp at e
 ·rcases cQ.1 b with a|b;·rw[a,f.blk]at e;simp at e
  ·cases b
def Lr.cell{wr:Gr}{b:List Nat}(h:Lr w wr b)(a:Nat)(c:a<19):wr.cell? ⟨w.heap.size,a,N⟩=O (I U (nth b a:Nat)):=by rw[iI h.row,bR];exact ig _ _ (by rw[h.len];exact c)
def Lr.set{wr:Gr}{a:List Nat}(h:Lr w wr a)(i b:Nat):Lr w (wr.setCell ⟨w.heap.size,i,N⟩ (I U (b:Nat))) (a.set i b):=by refine⟨?_,by rw[dI];exact h.len⟩;rw[lV _ h.row];simp[gL,List.map_set]
def xS:∀a:Fin 19,nth lQ a.val<19:=by decide +kernel
def EX(c a:Nat)(e:Array Bool)(b:Gr):Prop:=b.cell? ⟨1,c,N⟩=O (I U a)
def IA(r:List Bool):∀a,∀c∈k_ r a,c<16
 |0,c,b=>by have:=List.eq_of_mem_replicate b;omega
 |a+1,c,b=>by
  rw[k_]at b;rcases List.mem_or_eq_of_mem_set b with h|h;·exact IA r a c h
  ·rw[h];have i:=jk ((r.drop (3*a)).take 3);have e:((r.drop (3*a)).take 3).length<=3:=by rw[ay];omega
   have g:2^((r.drop (3*a)).take 3).length<=2^3:=aJ Y e;have f:(2:Nat)^3=8:=cO;omega
def ue{a:List Nat}{b:Nat}(h:∀e∈a,e<b)(i:Nat)(c:i<G a):nth a i<b:=by
 have:nth a i=a[i]:=by simp[nth,af c]
 rw[this];exact h _ (cq c)
def xA{a:List Nat}(c:∀b,b<G a->nth a b<16):(gz a).length=(cz a).sum:=(Bb a c (G a) (ag _)).2.1
def vd(b:List Nat)(a:Nat)(e:a<16):nth (cz b) a<=G b:=by
 rcases eg a with rfl|c;·rw[CJ];omega
 ·rw[wU b a c e];exact List.count_le_length
def JE(c:List Nat)(a:nth c 0=0):∀k,k+1<=G c->ld c k=pre c (k+1)
 |0,h=>by rw[xV c 0 Y,a];simp[ld,pre]
 |k+1,h=>by rw[ld,JE c a k Y,xV c (k+1) Y]
def Df(a:List Nat):ld (cz a) 15=(cz a).sum:=by rw[JE _ (CJ a) 15 (by rw[qU];omega),Ex _ (qU a)]
def Ec(a:List Nat):jG (λb=>nth (cz a) b) 15=iX a:=
 nN _ _ 15 (λk h1 h2=>wU a k Y Y)
def FB{g j:List Nat}{r l:List Bool}{e f:List Nat}(h:gZ g j r e=O (l,f)):G f<=G e+138:=by
 unfold gZ at h;have b:∀a (r:List Bool),gw (r.take a)<2^a:=λa r=>by
  have b:=jk (r.take a);have k:(r.take a).length<=a:=by rw[ay];omega
  exact aQ b (aJ Y k)
 cases i:gN g j r with
 |none=>rw[i]at h;cases h
 |some n=>
  obtain⟨o,c⟩:=n;rw[i]at h;simp only[]at h;have s:=b 2 c;have t:=b 3 c;have u:=b 7 c;split at h;·cases h;simp only[ak,aj,aI];omega
  split at h;·cases h
  split at h
  ·split at h;·cases h;simp;omega
   ·cases h
  split at h
  ·split at h;·cases h;simp;omega
   ·cases h
  split at h;·cases h;simp;omega
  ·cases h
def OM(c:List Nat):∀b∈gz c,b<=G c-1:=by
 have:∀k,∀b∈(fT c k).2,b<=k-1:=by
  intro k;induction k with
  |zero=>intro b a;simp only[fT]at a;have:=List.eq_of_mem_replicate a;omega
  |succ k e=>
   intro b a;simp only[fT]at a;split at a;·have:=e b a;omega
   ·rcases List.mem_or_eq_of_mem_set a with h|h;·have:=e b h;omega
    ·omega
 intro b a;unfold gz at a;exact this (G c) b a
def gb.lower{g:TypeId}{a c:Nat}{e:List Nat}{f b:Gr}(k:gb g a e f b)(h:c<=a):gb g c e f b:=
 ⟨k.os,k.tape,k.output,k.size,λn o j l i=>k.block n o j l (i.imp (λr=>Y) id)⟩
structure Cw(wr:Gr)(bc g B':Nat)(l:List Nat):Prop where
 row:wr.heap[bc]?=O (Pp (gL (cz l)++[Z (O ⟨g,0,N⟩) (cz l).sum (cz l).sum]).toArray 162 (0,0))
 sy:iJ wr g (gz l)
 lt:g<B'
def Cw.cd{wr:Gr}{c e B':Nat}{a:List Nat}(h:Cw wr c e B' a)(g:∀b,b<G a->nth a b<16):Cd wr c 0 (cz a) (gz a):=by
 have i:(gL (cz a)).length=16:=by simp[gL,qU]
 refine⟨λb f=>?_,e,(cz a).sum,?_,h.sy.cell⟩
 ·rw[iI h.row,bH,bR,aP Y];exact ig _ _ (by rw[qU];exact f)
 ·rw[iI h.row,bR,aF Y,i,xA g];rfl
def Cw.keptF{wr u:Gr}{o j n:Nat}{t:List Nat}{r:List Bool}(h:Cw wr o j n t)(v:Fl B z y J C A d most q wr r m M D)(k:gb 5 B [z,y] wr u):Cw u o j n t:=by
 have s:∀l c g a,wr.heap[l]?=O (Pp c g a)->g ≠ 141->g ≠ 167->l∉[z,y]:=λl c g a f t1 F e=>by
  obtain⟨p,E,left,b,_,_⟩:=v;rcases cQ.1 e with rfl|e;·rw[b.rd.blk]at f;exact t1 FV
  ·rcases cQ.1 e with rfl|e;·rw[b.blk]at f;exact F FV
   ·cases e
 refine⟨k.block _ _ (s _ _ _ _ h.row cO cO) h.row (P4 (by intro c a i;simp at i)),?_,h.lt⟩;obtain⟨c,a,b,x⟩:=h.sy;exact⟨c,a,k.block j _ (s _ _ _ _ b cO cO) b (P4 (by intro K L i;simp at i)),x⟩
def Cw.keptI{wr j:Gr}{f b a:Nat}{i:List Nat}(h:Cw wr f b a i)(k:gb 3 a [] wr j):Cw j f b a i:=by refine⟨k.block _ _ eA h.row (P4 (by intro c g e;simp at e)),?_,h.lt⟩;obtain⟨c,g,l,n⟩:=h.sy;exact⟨c,g,k.block b _ eA l (P3 h.lt),n⟩
def BI(B z y J C A:Nat)(d:List Nat)(most:Nat)(q:List GI)(m:Nat)(M:GI)(D:List Nat)(w:Gr)(g:Option (List Bool×List Nat))(c:MB)(a:Gr):Prop:=match g with
 |some (f,b)=>∃e,c=Ps e/\a.ownsRow w.heap.size 3 1 e (G b) (gL b)/\Fl B z y J C A d most q a f m M D/\gb 5 B [z,y] w a
 |none=>c=gU 5/\gb 5 B [z,y] w a
def Ml{r:List Bool}(h:Fl B z y J C A d most q w r m M D)(c2:oV w)(hG : 1<B)(T f:Nat)(ht:T<=19)(hn:f<=320){t:Option (List Bool×List Nat)}(c4:mq r T f=t):K8 Qe 279 #[M2 (O ⟨y,0,N⟩),I U T,I U f] w (BI B z y J C A d most q m M D w t):=by
 have bq:=H c4;have dw:=h.lt;have bs : 1∉[z,y]:=eB;have ct:J<w.heap.size:=by obtain⟨p,E,left,hb,_,_⟩:=h;have:=hb.rd.hB;omega
 have F0:=H (h.alloc (Pp (gL (Qf 19 0)).toArray 285 (0,0)));have L0:L1 (Lr w (w.alloc (Pp (gL (Qf 19 0)).toArray 285 (0,0))) (Qf 19 0)):=⟨bn _ _,eA⟩;have O0:=H (c2.kept (((gb.refl 5 B [z,y] w)).alloc (Pp (gL (Qf 19 0)).toArray 285 (0,0))) hG bs);have K0:=H ((gb.refl 5 B [z,y] w).alloc (Pp (gL (Qf 19 0)).toArray 285 (0,0)));have eZ:Obj.cells (gL (Qf 19 0)).toArray 285 (0,0)=Pp #[I U 0,I U 0,I U 0,I U 0,I U 0,I U 0,I U 0,I U 0,I U 0,I U 0,I U 0,I U 0,I U 0,I U 0,I U 0,I U 0,I U 0,I U 0,I U 0] 285 (0,0):=rfl;rw[eZ]at F0 L0 O0 K0
 go_in
 go_wp2;go_loopw [8,12] (λ_ vi wr=>∃(b:Nat) (a:List Nat),vi=I U b/\b<=T/\3*b<=G r/\Fl B z y J C A d most q wr (r.drop (3*b)) m M D/\Lr w wr a/\oV wr/\L1 (a=k_ r b)/\gb 5 B [z,y] w wr) (λ_ vi _=>T-(intOf vi).toNat)
 case atStart=>exact⟨0,_,rfl,aH _,aH _,F0,L0,O0,rfl,K0⟩
 case round=>
  obtain⟨b,a,rfl,ds,h3,o,P,V,a4,S⟩:=hrel;by_cases ci:b<T
  ·have ch:(b:Int)<T:=Y;have hx:=V b Y;have bt:=xS ⟨b,Y⟩;simp only[]at bt;have br:L1 (∀x,x=gw (((r.drop (3*b))).take 3)->a.set (nth lQ b) x=k_ r (b+1)):=λx hv=>by rw[a4.o,k_,hv]
   have b9:L1 (∀w',oV w'->w'.cell? ⟨1,b,N⟩=O (I U (nth lQ b:Nat))):=λw' bb=>bb b Y;generalize nth lQ b=Q at *;have d2:(b:Int)<19:=Y;have dk:(Q:Int)<19:=Y;by_cases cb:3*(b+1)<=G r
   ·have HB:=H (sN (w:=wr.drew) 3 Y (show 3<=(r.drop (3*b)).length by rw[au];omega) o.drew);rw[di,show 3*b+3=3*(b+1)by omega]at HB;obtain⟨x,hv⟩:∃x,gw ((r.drop (3*b)).take 3)=x:=⟨_,rfl⟩;rw[hv]at HB br;have HS:=H (br x rfl);have bm:L1 (∀l,gb 5 B [z,y] wr.drew l->Lr w l a/\oV l):=λl k6=>⟨Lr.kept (wr:=wr.drew) ⟨P.row,P.len⟩ o.drew k6,oV.kept (w:=wr.drew) V k6 hG bs⟩;have F:=H S;go_wp2_with fail;go_region_with (go_at_call 221;apply HB.o.m;rintro L l ⟨rfl,f6,k6⟩;have a2:=(bm l k6).1;have b6:=(bm l k6).2;have d1:=b9.o l b6;have dl:=a2.cell Q bt;have z6:l.frozen? ⟨w.heap.size,Q,N⟩=P2:=nG a2.row);all_goals have KI:L1 (gb 285 w.heap.size [] l (l.setCell ⟨w.heap.size,Q,N⟩ (I U (x:Nat)))):=Mf a2.row (ag _)
    all_goals go_wp2
    all_goals go_roundw
    all_goals first|exact⟨b+1,a.set Q x,by go_num,Y,cb,f6.keptE cO KI ct,a2.set Q x,b6.kept KI Y eA,HS,gb.new ((F.drew).t k6) KI⟩|(simp[intOf];omega)
   ·have HB:=H (v_ (w:=wr.drew) 3 Y (show(r.drop (3*b)).length<3 by rw[au];omega) o.drew);have HE:L1 (t=N):=by unfold Hid;rw[<-bq.o,mq,ai Y]
    have F:=H S;have s:=HE.o;subst s;go_wp2_with fail;refine om (EX b Q) aG ?_;intro j;have n:EX b Q (Array.replicate 9 P2) wr.drew:=hx;refine tm 0 j n λj n=>?_;refine tm 1 j n λj n=>?_;refine tm 2 j n λj n=>?_;refine tm 3 j n λj n=>?_;refine tm 4 j n λj n=>?_;refine tm 5 j n λj n=>?_;refine on 6 j λK' hK=>?_;go_simp;apply HB.o.m;rintro L e ⟨rfl,k2⟩;exact⟨rfl,rfl,(F.drew).t k2⟩
  ·obtain rfl:b=T:=Y;have ch:¬(b:Int)<b:=Y;have b3:∀v,v<G a->nth a v<16:=λv hj=>ue (by rw[a4.o];exact IA r b) v hj;have ad:=H b3;have bf:=H (Cc (w:=wr) w.heap.size 0 19 a b3 (by rw[P.len];omega) (ae P.row) (λv hj=>by rw[bH];exact P.cell v (by rw[<-P.len];exact hj)));rw[P.len]at bf;have b7:=H o;have F:=H S;have al:=H P.len;have d0:=ae P.row;have bo:L1 (t=if iX a≠32768 then N else i9 (cz a) (gz a) f (r.drop (3*b)) []):=by unfold Hid;rw[<-bq.o,mq,ah Y,<-a4.o]
   go_wp2_with fail;apply bf.o.m;rintro L e ⟨i,rfl,ir,b2,dp⟩;have b5:(e.alloc mT).heap[e.heap.size]?=O mT:=bn _ _;have bv:(gL (cz a)++[Z (O ⟨i,0,N⟩) (cz a).sum (cz a).sum]).length=17:=by simp[gL,qU]
   have b4:=List.size_toArray.t bv;have c1:(gL (cz a)++[Z (O ⟨i,0,N⟩) (cz a).sum (cz a).sum]).toArray.all (·.oneCell')=PV:=yI (cz a) _;have cx:L1 ((Tryz.prog.info? 162).map (·.size)=O (gL (cz a)++[Z (O ⟨i,0,N⟩) (cz a).sum (cz a).sum]).toArray.size):=by unfold Hid;rw[b4];kernel_rfl
   have c8:L1 ((e.alloc mT).there e.heap.size 0 (gL (cz a)++[Z (O ⟨i,0,N⟩) (cz a).sum (cz a).sum]).toArray.size):=by unfold Hid;rw[b4];exact vu b5
   have bz:=H (Ds b5 (by rw[bv];rfl));have ir:iJ e i (gz a):=by unfold gz;rw[al.o];exact ir
   have dr:i<e.heap.size:=by obtain⟨c,fz,hb,_⟩:=ir;exact ae hb
   have b0:L1 (iJ ((e.alloc mT).setCells e.heap.size 0 (gL (cz a)++[Z (O ⟨i,0,N⟩) (cz a).sum (cz a).sum])) i (gz a)):=by obtain⟨c,fz,hb,hc⟩:=ir;exact⟨c,fz,by rw[xg _ Y];exact mA _ hb,hc⟩
   have R:L1 (LT wr.heap.size wr ((e.alloc mT).setCells e.heap.size 0 (gL (cz a)++[Z (O ⟨i,0,N⟩) (cz a).sum (cz a).sum]))):=x_ _ _ b2.size _ _ _ _ (b2.alloc b2.size _);have ba:L1 (((e.alloc mT).setCells e.heap.size 0 (gL (cz a)++[Z (O ⟨i,0,N⟩) (cz a).sum (cz a).sum])).heap.size=e.heap.size+1):=by unfold Hid;rw[Dx];simp
   generalize cp:gL (cz a)++[Z (O ⟨i,0,N⟩) (cz a).sum (cz a).sum]=a8 at *;have cc:=H cp;go_wp2_with (refine eI rfl 162 (.tmp 9) (.tmp 25) rfl e.heap.size 0 a8.toArray rfl rfl c8 cx c1 ?_);generalize co:World.setCells (e.alloc _) e.heap.size 0 a8=W3;have e3:(e.alloc mT).setCells e.heap.size 0 a8=W3:=co;rw[e3]at bz b0 R ba;have bx:Cw W3 e.heap.size i W3.heap.size a:=⟨by rw[cc.o];exact bz,b0,by rw[ba.o];omega⟩;have bi:=H bx;have a3:=H (Fg e.heap.size 0 (cz a) (gz a) (bx.cd ad) (λv hj=>aA (vd a v hj) (by rw[al.o];omega)));rw[Ec]at a3;have K3:=H (F.t (gb.ofBelow' R));have cu:Fl B z y J C A d most q W3 (r.drop (3*b)) m M D:=by refine b7.keptE (e:= 3) cO (B':=wr.heap.size) ?_ Y;exact⟨R.o.os,R.tape,R.o.output,R.size,λk bb _ ho _=>by rw[R.o.block k (ae ho)];exact ho⟩
   have F3:=H cu;have ao:w.heap.size<=W3.heap.size:=by have:=R.o.size;omega
   have bw:e.heap.size<W3.heap.size:=by rw[ba.o];omega
   obtain⟨bc,cr⟩:∃bc,e.heap.size=bc:=⟨_,rfl⟩;rw[cr]at bi a3 bw ⊢;apply a3.o.m;rintro L w4 ⟨rfl,rfl⟩;by_cases cf:iX a=32768
   ·have a9:decide (iX a=32768)=PV:=by simp[cf]
    have ca:L1 (jn (cz a) (gz a) f ((r.drop (3*b)).length+1) (r.drop (3*b)) []=t):=by unfold Hid;rw[bo.o,ah (λh=>h cf)];rfl
    rw[a9];go_wp2_with fail;apply(nT _).m;rintro L w5 ⟨rfl,rfl⟩;obtain⟨i0,hi,c9,da,db⟩:=bu infoInt;go_wp2_with (at_make;refine wpList_make_own _ rfl _ _ 52 rfl w5.heap.size 3 i0 (I U 0) 1 cG hi c9 da U U _ f rfl rfl Y (by rw[db];omega) oi (ag _) ?_;intro l c3 cv);have X:=(aq _ _).grown cv (ag _) (λk h=>by cases h);have a7:gb 3 w5.heap.size [] w5 l:=⟨X.os,X.tape,X.output,X.size,λk bb _ ho _=>by rw[X.block k (ae ho)];exact ho⟩;have F6:=H (F3.keptI a7 Y);have C6:=H (bi.keptI a7);have K6:=H (gb.new K3 (gb.lower a7 ao));have O6:=H c3;have z6:=X.size;obtain⟨W,cl⟩:∃W,w5.heap.size=W:=⟨_,rfl⟩;rw[cl]at O6 C6 ao bw z6 ⊢;have R6:=H ca;have c7:ld (cz a) 15<=(gz a).length:=by rw[Df,xA ad.o];omega
    have c6:(gz a).length<=1000:=by rw[xA ad.o];have:=Fd a ad;rw[al.o]at this;omega
    have ck:∀u ac r1,gN (cz a) (gz a) u=O (ac,r1)->ac<=18:=λu ac r1 hs=>GQ (K:=18) (λbd hx=>by have:=OM a bd hx;rw[al.o]at this;omega) u ac r1 hs
    have a6:=H (And.intro c7 (And.intro c6 ck));go_loopw [10] (λvl wr=>∃(g:List Nat) (u:List Bool) (k:Nat),G g<=500/\wr.ownsRow W 3 1 vl (G g) (gL g)/\Fl B z y J C A d most q wr u m M D/\Cw wr bc i W a/\G u<k/\L1 (jn (cz a) (gz a) f k u g=t)/\W<=wr.heap.size/\gb 5 B [z,y] w wr) (λ_ wr=>bO z y (G d) wr)
    case atStart=>exact⟨[],r.drop (3*b),(r.drop (3*b)).length+1,eA,O6,F6,C6,Y,R6,z6,K6⟩
    case round=>
     obtain⟨g,u,k,hL,V,o,cw,hk,HG,zr,S⟩:=hrel;have hm:=H o.measure;obtain⟨a0,c0,rfl⟩:=jp V;obtain⟨k,rfl⟩:∃v,k=v+1:=⟨k-1,Y⟩;by_cases cn:G g<f
     ·have cj:(G g:Int)<f:=Y;obtain⟨st,a1⟩:∃st,gZ (cz a) (gz a) u g=st:=⟨_,rfl⟩;have HM:=H (MA (bc:=bc) (cs:=cz a) (ss:=gz a) a6.1 a6.2.1 (λw' r' dn k'=>(cw.keptF o k').cd ad) o V zr Y Y (λac r1 hs=>a6.2.2 u ac r1 hs) a1);have aa:L1 (qM (cz a) (gz a) f k st=t):=by unfold Hid;rw[<-HG.o,rI Y,a1]
      have CW:=H (λw' (k':gb 5 B [z,y] wr w')=>cw.keptF o k');have F:=H S;have a5:=H a1;clear a1 HG cw o V S;go_wp2_with fail;apply HM.o.m;intro L w7 b1;cases st with
      |none=>obtain⟨rfl,k7⟩:=b1;have s:N=t:=aa.o;subst s;exact⟨rfl,rfl,F.t k7⟩
      |some bd=>
       obtain⟨r',L'⟩:=bd;obtain⟨v',rfl,o7,f7,wm,km,ki⟩:=b1;have c5:=lq a5;have dv:=FB a5;have cy:=H f7.measure;have dc:=aA zr (aA km.size ki.size);have C7:=H ((CW wm km).keptI ki);have K7:=H (gb.new (F.t km) (gb.lower ki ao));have b8:L1 (jn (cz a) (gz a) f k r' L'=t):=aa.o;clear HM aa CW F a5 km ki;go_wp2;go_roundw
       case rel=>exact⟨L',r',k,Y,o7,f7,C7,Y,b8,dc,K7⟩
       case measure=>rw[hm.o,cy.o];exact c5
     ·have cj:¬(G g:Int)<f:=Y;have aa:L1 (t=if (G g)=f then O (u,g)else N):=by unfold Hid;rw[<-HG.o,jn,ai Y]
      clear HG;by_cases ce:G g=f
      ·have s:=aa.o;rw[ai ce]at s;subst s;have cg:((G g:Int)==(f:Int))=PV:=eB;have OB:=H (Ni V ao);clear ce;go_wp2_with fail;apply(nT _).m;rintro L w8 ⟨rfl,rfl⟩;go_wp2;go_ret;exact⟨_,rfl,OB,o,S⟩
      ·have s:=aa.o;rw[ah ce]at s;subst s;have cg:((G g:Int)==(f:Int))=P2:=eB;go_wp2_with fail;apply(mn _ rfl _).m;rintro L w8 ⟨rfl,rfl⟩;exact⟨rfl,rfl,S⟩
   ·have a9:decide (iX a=32768)=P2:=by simp[cf]
    rw[a9];have s:t=N:=by rw[bo.o,ai cf]
    subst s;go_wp2_with fail;apply(mn _ rfl _).m;rintro L w5 ⟨rfl,rfl⟩;exact⟨rfl,rfl,K3⟩
def CY{r:List Bool}(h:Fl B z y J C A d most q w r m M D)(l:G r<5):K8 Qe 224 #[M2 (O ⟨y,0,N⟩)] w λi s=>i=gU 5/\gb 5 B [z,y] w s:=by
 have f:=H (h.alloc i_);have g:=H ((gb.refl 5 B [z,y] w).alloc i_);obtain⟨c,e⟩:∃c,w.alloc i_=c:=⟨_,rfl⟩;rw[e]at f g;have j:w.alloc (Pp #[I U 0,I U 0,I U 0,I U 0,I U 0,I U 0,I U 0,I U 0,I U 0,I U 0,I U 0,I U 0,I U 0,I U 0,I U 0,I U 0,Z N 0 0,I U 0,I U 0,I U 0,I U 0,I U 0,I U 0,I U 0,I U 0,I U 0,I U 0,I U 0,I U 0,I U 0,I U 0,I U 0,I U 0,Z N 0 0] 164)=c:=e;have k:=H j;clear j e h
 go_in
 go_wp2_with fail;rw[k.o];refine om (λ_ _=>True) aG ?_;intro a;have b:(λ(_:Array Bool) (_:Gr)=>True) (Array.replicate 15 P2) c.drew:=trivial;refine tj 0 a b λa b=>?_;refine tj 1 a b λa b=>?_;refine tj 2 a b λa b=>?_;refine tj 4 a b λa b=>?_;refine tj 5 a b λa b=>?_;refine tj 6 a b λa b=>?_;refine tj 8 a b λa b=>?_;refine tj 9 a b λa b=>?_;refine tj 10 a b λa b=>?_;refine on 3 a λt u=>?_;go_simp;apply(v_ 5 Y l f.drew).m;rintro i v ⟨rfl,n⟩;exact⟨rfl,rfl,(g.drew).t n⟩
def CZ{r:List Bool}(h:Fl B z y J C A d most q w r m M D)(v:5<=G r)(L:G r<10):K8 Qe 224 #[M2 (O ⟨y,0,N⟩)] w λe K=>e=gU 5/\gb 5 B [z,y] w K:=by
 have g:=H (h.alloc i_);have i:=H ((gb.refl 5 B [z,y] w).alloc i_);obtain⟨c,f⟩:∃c,w.alloc i_=c:=⟨_,rfl⟩;rw[f]at g i;have k:w.alloc (Pp #[I U 0,I U 0,I U 0,I U 0,I U 0,I U 0,I U 0,I U 0,I U 0,I U 0,I U 0,I U 0,I U 0,I U 0,I U 0,I U 0,Z N 0 0,I U 0,I U 0,I U 0,I U 0,I U 0,I U 0,I U 0,I U 0,I U 0,I U 0,I U 0,I U 0,I U 0,I U 0,I U 0,I U 0,Z N 0 0] 164)=c:=f;have l:=H k;clear k f h
 go_in
 go_wp2_with fail;rw[l.o];refine om (λ_ _=>True) aG ?_;intro a;have b:(λ(_:Array Bool) (_:Gr)=>True) (Array.replicate 15 P2) c.drew:=trivial;refine tj 0 a b λa b=>?_;refine tj 1 a b λa b=>?_;refine tj 2 a b λa b=>?_;refine tj 4 a b λa b=>?_;refine tj 5 a b λa b=>?_;refine tj 6 a b λa b=>?_;refine tj 8 a b λa b=>?_;refine tj 9 a b λa b=>?_;refine tj 10 a b λa b=>?_;refine on 3 a λn j=>?_;go_simp;apply(sN 5 Y v g.drew).m;rintro e P ⟨rfl,s,x⟩;refine j _ _ trivial (λt u=>?_);have a:=t;have b:=u
 (try simp only[nH])
 refine on 7 a λn j=>?_;go_simp;apply(v_ 5 Y lB s).m;rintro e Q ⟨rfl,F⟩;exact⟨rfl,rfl,((i.drew).t x).t F⟩
def C5{r:List Bool}(h:Fl B z y J C A d most q w r m M D)(P:10<=G r)(Q:G r<14):K8 Qe 224 #[M2 (O ⟨y,0,N⟩)] w λe L=>e=gU 5/\gb 5 B [z,y] w L:=by
 have k:=H (h.alloc i_);have n:=H ((gb.refl 5 B [z,y] w).alloc i_);obtain⟨c,j⟩:∃c,w.alloc i_=c:=⟨_,rfl⟩;rw[j]at k n;have s:w.alloc (Pp #[I U 0,I U 0,I U 0,I U 0,I U 0,I U 0,I U 0,I U 0,I U 0,I U 0,I U 0,I U 0,I U 0,I U 0,I U 0,I U 0,Z N 0 0,I U 0,I U 0,I U 0,I U 0,I U 0,I U 0,I U 0,I U 0,I U 0,I U 0,I U 0,I U 0,I U 0,I U 0,I U 0,I U 0,Z N 0 0] 164)=c:=j;have t:=H s;clear s j h
 go_in
 go_wp2_with fail;rw[t.o];refine om (λ_ _=>True) aG ?_;intro a;have b:(λ(_:Array Bool) (_:Gr)=>True) (Array.replicate 15 P2) c.drew:=trivial;refine tj 0 a b λa b=>?_;refine tj 1 a b λa b=>?_;refine tj 2 a b λa b=>?_;refine tj 4 a b λa b=>?_;refine tj 5 a b λa b=>?_;refine tj 6 a b λa b=>?_;refine tj 8 a b λa b=>?_;refine tj 9 a b λa b=>?_;refine tj 10 a b λa b=>?_;refine on 3 a λl f=>?_;go_simp;apply(sN 5 Y Y k.drew).m;rintro e R ⟨rfl,u,x⟩;refine f _ _ trivial (λg i=>?_);have a:=g;have b:=i
 (try simp only[nH])
 refine on 7 a λl f=>?_;go_simp;apply(sN 5 Y lB u).m;rintro e S ⟨rfl,v,F⟩;refine f _ _ trivial (λg i=>?_);have a:=g;have b:=i
 (try simp only[nH])
 refine on 11 a λl f=>?_;go_simp;refine(v_ 4 Y (by rw[au,au];omega) v).m ?_;rintro e T ⟨rfl,K⟩;exact⟨rfl,rfl,(((n.drew).t x).t F).t K⟩
end
end Go.Proofs.YtgkljcmjnphpeaaGreatDoor
namespace Go
section
section
variable{P:Program}{d:Array Oper}{Q:Exit->MN->Gr->Prop}{e:Region.Mode}{S:Array Bool->Gr->Prop}
def iT{c:Bool}{a b:Prop}(h:c=PV)(f:a):if c=PV then a else b:=by rw[ai h];exact f
def Ff{a:Gr}{b:Operand->GI}{g:Oper}(h c f:Nat)(l m:Operand)(n:g.op=.build h #[(c,l),(f,m)]){j k i:GI}(p:b l=j)(q:b m=k)(o:(Instr.build h #[(c,j),(f,k)]).run P a=.ok i a):(execOp b g).run P a=.ok (.value i) a:=by simp[execOp,n,p,q,o,Result.andThen]
end
end
end Go
namespace Go.Proofs.YtgkljcmjnphpeaaGreatDoor
open Go.RowKit
section
variable{B y u z s q:Nat}{d:List Nat}{m:Nat}{l:List GI}{w:Gr}{p A left f:Nat}{D:GI}{t:List Nat}
def Ek(b:Bool)(c:b=PV)(w:Gr):K8 Qe 163 #[OV b] w λa e=>a=Ps (OW #[])/\e=w:=by subst c;exact nT w
def Nc{g a c:Nat}{i:List GI}{e:Nat}(h:w.ownsRow e 3 1 (Z (O ⟨g,0,N⟩) a c) a i):a<=c/\c<=9223372036854775807:=by
 obtain⟨_,h|⟨n,j,k,b,_,_,h1,h2,_⟩⟩:=h;·exact absurd h.1 eA
 ·simp only[Value.slice.injEq]at b;obtain⟨_,_,rfl⟩:=b;exact⟨h1,h2⟩
def Jb{r c:List Bool}{e b:Nat}{a:List Nat}(h:mq r e b=O (c,a)):G a=b/\∀g∈a,g<16:=by
 unfold mq at h;split at h;·cases h
 split at h;·cases h
 exact n8 h
def gb.setCellsNew{g:TypeId}{B b j:Nat}{e:List Nat}{c w:Gr}(h:gb g B e c w)(x:c.heap.size<=b)(n:List GI):gb g B e c (w.setCells b j n):=
 have a:=x_ b b (ag _) n j w w (aq _ _)
 ⟨a.os.t h.os,a.tape.t h.tape,a.output.t h.output,aA h.size a.size,λk v r i o=>by rw[xg b (by have:=ae i;omega)];exact h.block k v r i o⟩
def tL(a:List Nat)(b:Nat):List GI:=gL (cz a)++[Z (O ⟨b,0,N⟩) (cz a).sum (cz a).sum]
def oC(a b:List Nat)(c e:Nat):List GI:=tL a c++tL b e
def wu(a:List Nat)(b:Nat):(tL a b).length=17:=by simp[tL,gL,qU]
def J0{c:Gr}{b e:Nat}{a:List GI}{g:Nat×Nat}(h:c.heap[b]?=O (Pp a.toArray e g)):L1 (c.rangeAt b 0 a):=by intro j k i;rw[iI h,bH];simpa using i
def zB{i:TypeId}{a h:Nat}{c:Array GI}{o:Nat×Nat}(r:w.heap[a]?=O (Pp c i o))(v:h<=a)(n:List GI):gb i h [] w (w.setCells a 0 n):=
 have b:=x_ a a (ag _) n 0 w w (aq _ _)
 ⟨b.os,b.tape,b.output,b.size,λk x _ g e=>by
  by_cases j:k=a
  ·subst j;rw[r]at g;rcases e with e|e;·omega
   ·exact absurd (dq g).s (e _ _)
  ·rw[xg a j];exact g⟩
def yJ{e:Gr}{i g j:Nat}{a c:List Nat}(h:e.heap[i]?=O (Pp (oC a c g j).toArray 164 (0,0)))(h1:iJ e g (gz a))(h2:iJ e j (gz c))(s1:∀b,b<G a->nth a b<16)(v:∀b,b<G c->nth c b<16):Cd e i 0 (cz a) (gz a)/\Cd e i 17 (cz c) (gz c):=by
 have n:=wu a g;have o:(gL (cz a)).length=16:=by simp[gL,qU]
 have r:(gL (cz c)).length=16:=by simp[gL,qU]
 refine⟨⟨λb k=>?_,g,(cz a).sum,?_,h1.cell⟩,⟨λb k=>?_,j,(cz c).sum,?_,h2.cell⟩⟩
 ·rw[iI h,bH,bR,oC,aP Y,tL,aP Y];exact ig _ _ (by rw[qU];exact k)
 ·rw[iI h,bR,oC,aP Y,tL,aF Y,o,xA s1];rfl
 ·rw[iI h,bR,oC,aF Y,n,show 17+b-17=b by omega,tL,aP Y];exact ig _ _ (by rw[qU];exact k)
 ·rw[iI h,bR,oC,aF Y,n,tL,aF Y,r,xA v];rfl
def LY(a:List Nat)(X:∀b,b<G a->nth a b<16)(j:iX a≠32768):((gz a).length=nth (cz a) 1/\(gz a).length<=1)↔(iX a=0\/(iX a=16384/\∀e∈a,e<2)):=by
 have e1:(gz a).length=ld (cz a) 15:=by rw[xA X,Df]
 have e2:=Ec a;rw[<-e2]at j ⊢;rw[e1];have c:(∀e∈a,e<2)↔∀k,2<=k->k<16->nth (cz a) k=0:=by
  constructor
  ·intro h k h2 g;rw[wU a k Y g,List.count_eq_zero];intro hk;have:=h k hk;omega
  ·intro h e c;rcases bU e 2 with h2|h2;·exact h2
   ·exfalso;obtain⟨b,W,rfl⟩:=cK c;have g:a[b]<16:=by have:=X b W;simpa[nth,af W]using this
    have:=h a[b] h2 g;rw[wU a _ Y g,List.count_eq_zero]at this;exact this c
 rw[c];have V:(∀k,2<=k->k<16->nth (cz a) k=0)↔(nth (cz a) 2=0/\nth (cz a) 3=0/\nth (cz a) 4=0/\nth (cz a) 5=0/\nth (cz a) 6=0/\nth (cz a) 7=0/\nth (cz a) 8=0/\nth (cz a) 9=0/\nth (cz a) 10=0/\nth (cz a) 11=0/\nth (cz a) 12=0/\nth (cz a) 13=0/\nth (cz a) 14=0/\nth (cz a) 15=0):=by
  constructor
  ·intro h;exact⟨h 2 Y Y,h 3 Y Y,h 4 Y Y,h 5 Y Y,h 6 Y Y,h 7 Y Y,h 8 Y Y,h 9 Y Y,h 10 Y Y,h 11 Y Y,h 12 Y Y,h 13 Y Y,h 14 Y Y,h 15 Y Y⟩
  ·rintro⟨h2,h3,h4,h5,h6,h7,h8,h9,ac,ad,al,ao,a0,ba⟩ k k2 bb;have:k=2\/k=3\/k=4\/k=5\/k=6\/k=7\/k=8\/k=9\/k=10\/k=11\/k=12\/k=13\/k=14\/k=15:=Y;rcases this with rfl|rfl|rfl|rfl|rfl|rfl|rfl|rfl|rfl|rfl|rfl|rfl|rfl|rfl<;>assumption
 rw[V];have S:jG (λaa=>nth (cz a) aa) 15=nth (cz a) 1*16384+nth (cz a) 2*8192+nth (cz a) 3*4096+nth (cz a) 4*2048+nth (cz a) 5*1024+nth (cz a) 6*512+nth (cz a) 7*256+nth (cz a) 8*128+nth (cz a) 9*64+nth (cz a) 10*32+nth (cz a) 11*16+nth (cz a) 12*8+nth (cz a) 13*4+nth (cz a) 14*2+nth (cz a) 15:=by simp[jG]
 have T:ld (cz a) 15=nth (cz a) 1+nth (cz a) 2+nth (cz a) 3+nth (cz a) 4+nth (cz a) 5+nth (cz a) 6+nth (cz a) 7+nth (cz a) 8+nth (cz a) 9+nth (cz a) 10+nth (cz a) 11+nth (cz a) 12+nth (cz a) 13+nth (cz a) 14+nth (cz a) 15:=by simp[ld]
 rw[S]at j ⊢;rw[T];generalize nth (cz a) 1=i at *;generalize nth (cz a) 2=F at *;generalize nth (cz a) 3=J at *;generalize nth (cz a) 4=K at *;generalize nth (cz a) 5=L at *;generalize nth (cz a) 6=M at *;generalize nth (cz a) 7=P at *;generalize nth (cz a) 8=Q at *;generalize nth (cz a) 9=R at *;generalize nth (cz a) 10=o at *;generalize nth (cz a) 11=r at *;generalize nth (cz a) 12=v at *;generalize nth (cz a) 13=x at *;generalize nth (cz a) 14=C at *;generalize nth (cz a) 15=E at *;clear e1 e2 c V S T j;constructor
 ·rintro⟨h1,h2⟩;have n:F=0/\J=0/\K=0/\L=0/\M=0/\P=0/\Q=0/\R=0/\o=0/\r=0/\v=0/\x=0/\C=0/\E=0:=by refine⟨?_,?_,?_,?_,?_,?_,?_,?_,?_,?_,?_,?_,?_,?_⟩<;>omega
  obtain⟨rfl,rfl,rfl,rfl,rfl,rfl,rfl,rfl,rfl,rfl,rfl,rfl,rfl,rfl⟩:=n;have:i=0\/i=1:=Y;rcases this with rfl|rfl;·exact P3 rfl
  ·exact P4 ⟨rfl,rfl,rfl,rfl,rfl,rfl,rfl,rfl,rfl,rfl,rfl,rfl,rfl,rfl,rfl⟩
 ·rintro(h|⟨h,rfl,rfl,rfl,rfl,rfl,rfl,rfl,rfl,rfl,rfl,rfl,rfl,rfl,rfl⟩)
  ·have n:i=0/\F=0/\J=0/\K=0/\L=0/\M=0/\P=0/\Q=0/\R=0/\o=0/\r=0/\v=0/\x=0/\C=0/\E=0:=by refine⟨?_,?_,?_,?_,?_,?_,?_,?_,?_,?_,?_,?_,?_,?_,?_⟩<;>omega
   obtain⟨rfl,rfl,rfl,rfl,rfl,rfl,rfl,rfl,rfl,rfl,rfl,rfl,rfl,rfl,rfl⟩:=n;exact⟨rfl,Y⟩
  ·omega
def yq(B y u z s q:Nat)(d:List Nat)(m:Nat)(l:List GI)(f:Nat)(D:GI)(t:List Nat)(w:Gr)(r:List Bool)(e:MB)(b:Gr):Prop:=
 ((ix r=N\/∃c a,ix r=O (c,a)/\¬jA a (iq r))/\e=gU 5/\gb 5 B [y,u] w b) \/
 (∃c a g h,ix r=O (c,a)/\jA a (iq r)/\e=Ps (N1 (oC (a.take (iq r)) (a.drop (iq r)) g h).toArray)/\iJ b g (gz (a.take (iq r)))/\iJ b h (gz (a.drop (iq r)))/\Fl B y u z s q d m l b c f D t/\gb 5 B [y,u] w b)
end
