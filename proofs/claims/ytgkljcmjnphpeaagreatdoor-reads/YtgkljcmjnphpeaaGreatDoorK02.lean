import Derived.Test.YtgkljcmjnphpeaaGreatDoorK01
set_option linter.defProp false
set_option linter.unusedVariables false
set_option linter.unusedSimpArgs false
set_option maxHeartbeats 8000000
set_option maxRecDepth 100000
open List renaming length->G
open Go renaming Value->GI,World->Gr,Calls->K8,Addr->L2,Ending->MB
open Go.Value renaming int->I,pointer->M2,string->MV,agg->N1,tuple->OW,slice->Z
open Go.RowKit renaming Hid->L1,Below->LT
open Option renaming none->N,some->O
open Bool renaming false->P2,true->PV
open Or renaming inr->P4
open Go.Obj renaming cells->Pp
open Go.Ending renaming returned->Ps
open Go.Proofs.Tryz renaming prog->Qe
open List renaming replicate->Qf
open Go.IntKind renaming i64->U
open Go.Proofs.Tryz
namespace Go.Proofs.YtgkljcmjnphpeaaGreatDoor
open Go.RowKit
section
variable{B d:Nat}{w w':Gr}
def Fq(c:UInt8):∀f:List UInt8,Lib.indexByte f c=if f.dropWhile (λb=>b != c)=[]then -1 else((f.takeWhile λb=>b != c).length:Int)
 | []=>rfl
 |b::g=>by
  rw[Lib.indexByte,bP,cL,Fq c g];by_cases a:b=c;·subst a;simp
  ·have h1:(b==c)=P2:=by simp[a]
   have h2:(b != c)=PV:=by simp[a]
   rw[h1,h2];simp only[if_true];by_cases e:g.dropWhile (λb=>b != c)=[];·simp[e]
   ·rw[ah e,ah e];simp only[aj];rw[ah eA,ah eA];omega
def zj(a:List UInt8):Lib.cut a [46]=match a.dropWhile (λb=>b != 46)with|[]=>(a,[],P2)|_::e=>(a.takeWhile (λb=>b != 46),e,PV):=by
 have h:a.takeWhile (λb=>b != 46)++a.dropWhile (λb=>b != 46)=a:=List.takeWhile_append_dropWhile;cases g:a.dropWhile (λb=>b != 46)with
 |nil=>
  have f:Lib.index a [46] = -1:=by rw[Lib.index_one,Fq,ai g]
  unfold Lib.cut;rw[f,ah Y]
 |cons l e=>
  have f:Lib.index a [46]=((a.takeWhile λb=>b != 46).length:Int):=by rw[Lib.index_one,Fq,ah (by rw[g];simp)]
  unfold Lib.cut;rw[f,ai Y,Int.toNat_natCast];rw[g]at h;have k:∀c:List UInt8,c++(l::e)=a->a.take (G c)=c/\a.drop (G c+1)=e:=by rintro c rfl;simp
  obtain⟨i,j⟩:=k _ h;rw[i];simp only[aj,aI,bH];rw[j]
def Jo(b c:UInt8):(b != c)=(b.toNat != c.toNat):=by rw[bC];simp[UInt8.toNat_inj]
def Jh(c:UInt8):∀a:List UInt8,(a.takeWhile λb=>b != c).map UInt8.toNat=(a.map UInt8.toNat).takeWhile λb=>b != c.toNat
 | []=>rfl
 |b::e=>by
  rw[cL,bF,cL,<-Jo];cases h:(b != c);·rfl
  ·simp only[if_true,bF];rw[Jh c e]
def Jg(c:UInt8):∀a:List UInt8,(a.dropWhile λb=>b != c).map UInt8.toNat=(a.map UInt8.toNat).dropWhile λb=>b != c.toNat
 | []=>rfl
 |b::e=>by
  rw[bP,bF,bP,<-Jo];cases h:(b != c);·rfl
  ·simp only[if_true];rw[Jg c e]
def LK(b c:UInt8):(b==c)=(b.toNat==c.toNat):=by rw[bC];simp[UInt8.toNat_inj]
def Jf(c:UInt8):∀a:List UInt8,(a.dropWhile λb=>b==c).map UInt8.toNat=(a.map UInt8.toNat).dropWhile λb=>b==c.toNat
 | []=>rfl
 |b::e=>by
  rw[bP,bF,bP,<-LK];cases h:(b==c);·rfl
  ·simp only[if_true];rw[Jf c e]
def wa(l:List UInt8):bl ⟨l.toArray⟩=l.map UInt8.toNat:=by simp[bl]
def PH(a:ByteArray):bl ⟨(Lib.trimRightB a.data.toList 48).toArray⟩=iu (bl a):=by rw[wa];unfold Lib.trimRightB iu bl;rw[List.map_reverse,Jf,List.map_reverse];rfl
def sb(a:ByteArray):a.size=(bl a).length:=(mK a).s
def A8(a b:ByteArray):bl (a++b)=bl a++bl b:=by unfold bl;rw[ByteArray.data_append];simp
def ui(a:List Nat)(h:∀b∈a,b<256):bl (ge a)=a:=by unfold bl ge;simp only[fH];have:a.map (UInt8.toNat ∘ UInt8.ofNat)=a.map id:=List.map_congr_left (λb c=>by simp[ed (h b c)]);simpa using this
def Im(l a:List Nat):fZ ((fZ l).1++48::a)=((fZ l).1,48::a):=by
 cases l with
 |nil=>simp[fZ]
 |cons b r=>
  simp only[fZ];by_cases h:b=43\/b=45;·rw[ai h];simp[h]
  ·rw[ah h];simp
def sr{l a b:List Nat}(i:G a<=9)(j:G b<=9)(e:∀c∈a,c<256)(f:∀c∈b,c<256):Small ((fZ l).1++48::(a++b)):=by unfold Small;rw[Im];refine⟨by simp only[aj,ak];omega,λh=>?_⟩;simp only[cZ,bN]at h;have h2:=El (a++b) 0 (λc g=>(bG.1 g).elim (e c) (f c)) h.2;have h3:10^(a++b).length<=10^18:=aJ cO (by rw[ak];omega);have:iO (48::(a++b))=(a++b).foldl qo 0:=rfl;simp only[];omega
def PJ(l:List Nat):(iu l).length<=G l:=by
 unfold iu;rw[List.length_reverse];have:=(cW (l:=l.reverse) λb=>b==48).length_le
 rwa [List.length_reverse]at this
def PK{l:List Nat}{a:Nat}(h:a∈iu l):a∈l:=by
 unfold iu at h;rw[List.mem_reverse]at h;have:=(cW (l:=l.reverse) λb=>b==48).subset h
 rwa [List.mem_reverse]at this
def oz(b:List Nat)(w:Gr)(a:MB)(w':Gr):Prop:=match jm b with
 |some (c,e)=>a=Ps (N1 #[I U 3,I U c,I U e,MV {data:=#[]},Z N 0 0,Z N 0 0,Z N 0 0])/\LT w.heap.size w w'
 |none=>a=gU 4/\LT w.heap.size w w'
def oz.none_{a:List Nat}{w w':Gr}(h:jm a=N)(b:LT w.heap.size w w'):oz a w (gU 4) w':=by unfold oz;rw[h];exact⟨rfl,b⟩
def Od(he:p_ B w)(hB:B<=w.heap.size)(q:ByteArray)(hS:q.size<=1000000):K8 Qe 308 #[MV q] w (oz (bl q) w):=by
 have HC:=H (Il (w:=w.alloc (Pp gG 67)) q hS);have ad:=H (xH q);have HE:=H he;have bs:=mK q;generalize bl q=a at *;obtain⟨g,hD⟩:∃g,ge (fZ a).2=g:=⟨_,rfl⟩;have v:bl g=(fZ a).2:=by rw[<-hD];exact ui _ (λn j=>ad n (Ik j))
 have bo:g.size<=1000000:=by
  rw[sb,v];have:(fZ a).2.length<=G a:=by
   unfold fZ;cases a with
   |nil=>exact ag _
   |cons b y=>simp only[];split<;>simp
  omega
 have l:L1 (LT w.heap.size w (w.alloc (Pp gG 67))):=(aq _ _).alloc (ag _) _;have HZ:L1 ((w.alloc (Pp gG 67)).heap[w.heap.size]?=O (Pp gG 67 (0,0))):=bn _ _;generalize hW:w.alloc (Pp gG 67)=o at *;have a1:w.alloc (Pp #[I U 0,I U 0,I U 0,MV {data:=#[]},Z N 0 0,Z N 0 0,Z N 0 0] 67)=o:=hW;have a6:=H a1;clear he hW a1
 go_in
 go_wp2_with fail;rw[a6.o];apply HC.o.m;rintro i w1 ⟨⟨a7,b,rfl,ha,hb⟩,E,rfl⟩;have ba:b=MV g:=by rw[<-hD];exact hb
 have a9:a7=MV (ge (fZ a).1):=ha;subst ba a9;have a4:=H (HE.below hB (l.t ((u_ o E).m l.size)));obtain⟨mx,bd⟩:=a4.o.mx;have m:=H (Tryz.strings_Cut g {data:=#[46]} mx (o.drewN E) Y bd);rw[show({data:=#[46]}:ByteArray).data.toList=[46]from rfl,zj]at m;have p:=Jg 46 g.data.toList;have D:=Jh 46 g.data.toList;rw[show(UInt8.toNat 46)=46 from rfl]at p D;rw[show g.data.toList.map UInt8.toNat=(fZ a).2 from v]at p D;cases X:g.data.toList.dropWhile (λb=>b != 46)with
 |nil=>
  rw[X]at m p;simp only[]at m;have HN:L1 (jm a=N):=by unfold Hid jm;rw[<-p];rfl
  go_wp2_with fail;apply m.o.m;rintro i w2 ⟨rfl,F,rfl⟩;go_wp2_with fail;apply(nZ _).m;rintro i w' ⟨rfl,rfl⟩;exact⟨rfl,oz.none_ HN (l.t ((u_ o _).m l.size))⟩
 |cons n y=>
  rw[X]at m p;simp only[]at m;obtain⟨e,M⟩:∃e:ByteArray,⟨(g.data.toList.takeWhile λb=>b != 46).toArray⟩=e:=⟨_,rfl⟩;obtain⟨c,Q⟩:∃c:ByteArray,⟨y.toArray⟩=c:=⟨_,rfl⟩;rw[M,Q]at m;have S:bl e=(fZ a).2.takeWhile λb=>b != 46:=by rw[<-M,wa];exact D
  have T:bl c=y.map UInt8.toNat:=by rw[<-Q,wa]
  have s:L1 (jm a=if 1<=max e.size c.size/\max e.size c.size<=9 then(kU ((fZ a).1++48::(bl e++iu (bl c)))).map λr=>(r,(iu (bl c)).length)else N):=by unfold Hid jm;rw[<-p];simp only[bF];rw[sb e,sb c,S,T]
  have K:L1 ((∀n∈bl e,n<256)/\(∀n∈bl c,n<256)):=⟨xH e,xH c⟩;have bm:e.size<=1000000:=by
   rw[sb,S];have:=(dG (l:=(fZ a).2) λb=>b != 46).length_le;have h2:(fZ a).2.length=g.size:=by rw[<-v,mK]
   omega
  have bq:c.size<=1000000:=by rw[sb,T];have h1:=(cW (l:=(fZ a).2) λb=>b != 46).length_le;rw[<-p,<-v,mK]at h1;simp only[bF,aj,aw]at h1 ⊢;omega
  clear X p D M Q v;have bc:max (e.size:Int) (c.size:Int)=((max e.size c.size:Nat):Int):=Y;by_cases P:1<=max e.size c.size/\max e.size c.size<=9
  ·have ao:=H (λW2=> Tryz.strings_TrimRight_one c 48 cO W2 Y);obtain⟨f,R⟩:∃f:ByteArray,⟨(Lib.trimRightB c.data.toList 48).toArray⟩=f:=⟨_,rfl⟩;rw[R]at ao;have C:bl f=iu (bl c):=by rw[<-R];exact PH c
   have br:f.size<=9:=by rw[sb,C];have:=PJ (bl c);rw[mK]at this;omega
   have a5:L1 (Small ((fZ a).1++48::(bl e++bl f))):=sr (by rw[mK];omega) (by rw[mK];omega) K.1 (λn j=>by rw[C]at j;exact K.2 n (PK j));rw[ai P,<-C,mK f]at s;have bt:(ge (fZ a).1).size<=1:=by
    unfold ge fZ;cases a with
    |nil=>simp[ByteArray.size]
    |cons b y=>simp only[];split<;>simp[ByteArray.size]
   have W:bl (ge (fZ a).1)=(fZ a).1:=by
    refine ui _ (λn j=>ad n ?_);unfold fZ at j;cases a with
    |nil=>cases j
    |cons b y=>
     simp only[]at j;split at j;·simp at j;simp[j]
     ·cases j
   generalize ge (fZ a).1=a3 at *;have u:∃t:ByteArray,((a3++{data:=#[48]})++e)++f=t:=⟨_,rfl⟩;obtain⟨t,u⟩:=u;have V:bl t=(fZ a).1++48::(bl e++bl f):=by rw[<-u,A8,A8,A8,W,wj];simp
   have a8:t.size<=1000000:=by rw[sb,V,<-W];simp only[ak,aj,mK];omega
   have ac:=H (λbi=>Ia (HE.below hB (l.t ((u_ o bi).m l.size))) t a8);rw[V]at ac;have HX:=H u;clear u V W R C K S T;go_wp2_with fail;apply m.o.m;rintro i w2 ⟨rfl,F,rfl⟩;have z:(1:Int)<=((max e.size c.size:Nat):Int):=Y;have a0:((max e.size c.size:Nat):Int)<=9:=Y;clear P m;go_wp2_with fail;apply(ou _ 1 9 _ z a0).m;rintro i w' ⟨rfl,rfl⟩;clear z a0 bc;go_wp2_with fail;apply(oe _).m;rintro i w' ⟨rfl,rfl⟩;go_wp2_with fail;apply(ao _).m;rintro i w' ⟨rfl,rfl⟩;go_wp2_with fail;rw[HX.o];apply(ac _).m;rintro i w3 ⟨⟨r,ev,rfl,bb,bf⟩,b3⟩;have al:=H (bf a5);have J:=H (l.t (((u_ o (E+F)).t b3).m l.size));have aa:w3.heap[w.heap.size]?=O (Pp gG 67 (0,0)):=by rw[((u_ o (E+F)).t b3).block _ (ae HZ.o)];exact HZ
   rcases bb with rfl|⟨te,pe,rfl⟩
   ·have L:L1 (jm a=O (r,f.size)):=by
     unfold Hid;rw[s.o];have:=al.o;unfold AI at this;cases A:kU ((fZ a).1++48::(bl e++bl f))with
     |some a2=>rw[A]at this;rw[this.1];rfl
     |none=>rw[A]at this;obtain⟨_,_,h⟩:=this;cases h
    obtain⟨r0,r1,r2,r3,r4,r5,r6⟩:=qu aa;obtain⟨f0,f1,f2,f3,f4,f5,f6⟩:=uj 0 1 2 3 4 5 6 aa;have HS:=H (pq aa (I U 3) (I U r) (I U (f.size:Int)) (MV {data:=#[]}) (Z N 0 0) (Z N 0 0) (Z N 0 0));have HO:=H (lX w3 w.heap.size (I U 3) (I U r) (I U (f.size:Int)) (MV {data:=#[]}) (Z N 0 0) (Z N 0 0) (Z N 0 0));go_wp2_with fail;apply(oe _).m;rintro i w' ⟨rfl,rfl⟩;go_wp2;refine av (v:=N1 #[I U 3,I U r,I U (f.size:Int),MV {data:=#[]},Z N 0 0,Z N 0 0,Z N 0 0]) ?_ rfl ?_;·exact aE results308 _ _ w.heap.size 67 _ _ _ rfl HS aK rfl aG
    unfold oz;rw[L.o];refine⟨rfl,J.t ?_⟩;have x:=HO.o;exact⟨x.os,x.tape,x.output,x.size,λk hk=>x.block k (aQ hk J.size) Y⟩
   ·have L:L1 (jm a=N):=by
     unfold Hid;rw[s.o];have:=al.o;unfold AI at this;cases A:kU ((fZ a).1++48::(bl e++bl f))with
     |some a2=>rw[A]at this;cases this.2
     |none=>rfl
    go_wp2_with fail;apply(nZ _).m;rintro i w' ⟨rfl,rfl⟩;exact⟨rfl,oz.none_ L J⟩
  ·rw[ah P]at s;have z:((max e.size c.size:Nat):Int)<1\/(9:Int)<((max e.size c.size:Nat):Int):=Y;go_wp2_with fail;apply m.o.m;rintro i w2 ⟨rfl,F,rfl⟩;go_wp2_with fail;apply(qP _ 1 9 _ z).m;rintro i w' ⟨rfl,rfl⟩;go_wp2_with fail;apply(nZ _).m;rintro i w' ⟨rfl,rfl⟩;exact⟨rfl,oz.none_ s (l.t ((u_ o _).m l.size))⟩
end
section
variable{B bs cap k:Nat}{ao:Option L2}{data:List Nat}{d f i:GI}{w j m:Gr}{q r:List Nat}
def xO(a:Sc B bs ao cap data d f i j q)(n:gB bs w j)(s:j.heap[w.heap.size]?=O (Pp gG 67 (0,0)))(e:Nat)(g:Int)(h:Nat)(l:List Nat)(x:bs<w.heap.size):let o:=((((((j.setCell ⟨w.heap.size,0,N⟩ (I U e)).setCell ⟨w.heap.size,1,N⟩ (I U g)).setCell ⟨w.heap.size,2,N⟩ (I U h)).setCell ⟨w.heap.size,3,N⟩ (MV (ge l))).setCell ⟨w.heap.size,4,N⟩ (Z N 0 0)).setCell ⟨w.heap.size,5,N⟩ (Z N 0 0)).setCell ⟨w.heap.size,6,N⟩ (Z N 0 0)
  o.heap[w.heap.size]?=O (Pp #[I U e,I U g,I U h,MV (ge l),Z N 0 0,Z N 0 0,Z N 0 0] 67 (0,0)) /\
   gF (λc=>w.heap.size<=c) (k+1) o (N1 #[I U e,I U g,I U h,MV (ge l),Z N 0 0,Z N 0 0,Z N 0 0]) (jj (VT k) e g h l)/\Sc B bs ao cap data d f i o q/\gB bs w o:=by
 have b:=lX j w.heap.size (I U e) (I U g) (I U h) (MV (ge l)) (Z N 0 0) (Z N 0 0) (Z N 0 0);have u:=a.hb;have p:=a.lt;have t:=n.size;refine⟨pq s _ _ _ _ _ _ _,gF.leaf k e g h l,?_,?_⟩;·exact⟨a.hb,by rw[b.block _ p Y];exact a.blk,a.dat.other (λc v=>b.block c Y Y),a.byt,a.len,a.lc,a.le,a.suf,a.ad⟩
 ·exact⟨b.os.t n.os,b.tape.t n.tape,b.output.t n.output,aA t b.size,λc h1 h2=>(b.block c Y Y).t (n.block c h1 h2)⟩
def sD(a:ByteArray)(c:List UInt8):(a.toList==c)=decide (bl a=c.map UInt8.toNat):=by
 rw[bC,beq_iff_eq,cm,de];unfold bl;constructor;·intro h;rw[h]
 ·intro h;exact(List.map_inj_right (λe b=>UInt8.toNat_inj.1)).1 h
def Pm(he:p_ B w)(h:Sc B bs ao cap data d f i w r):K8 Qe 256 #[M2 (O ⟨bs,0,N⟩)] w (ut B bs ao cap data d f i (k+1) (i7 (VT k) r) w):=by
 have t:=H h.lt;have BW:L1 (LT w.heap.size w (w.alloc (Pp gG 67))):=(aq _ _).alloc (ag _) _;have H0:=H (h.other BW);have HZ:L1 ((w.alloc (Pp gG 67)).heap[w.heap.size]?=O (Pp gG 67 (0,0))):=bn _ _;have a4:=ew (eh h.hb h.lt);have HE:=H he;have bc:=H h.bytes;have bq:=aA h.le h.len;have HW:=H (Km H0);obtain⟨C,hR⟩:∃C,i7 (VT k) r=C:=⟨_,rfl⟩;rw[hR];have e:=H hR;unfold i7 at e;have HQ:=H (λal hx=>bc al (Hc hx));have br:(gn r).length<=200000:=by have h1:=(dG (l:=f9 r) pB).length_le;have h2:=iz r;have:gn r=(f9 r).takeWhile pB:=rfl;rw[this];omega
 generalize gn r=s at *;generalize gm r=q at *;obtain⟨u,hT⟩:∃u,ge s=u:=⟨_,rfl⟩;have T:bl u=s:=by rw[<-hT];exact ui _ HQ
 have a5:u.size<=1000000:=by rw[sb,T];omega
 rw[hT]at HW;generalize bo:w.alloc (Pp gG 67)=bi at *;have bf:L1 (w.alloc (Pp #[I U 0,I U 0,I U 0,MV {data:=#[]},Z N 0 0,Z N 0 0,Z N 0 0] 67)=bi):=bo;have a6:(u.toList==[110,117,108,108])=decide (s=[110,117,108,108]):=by rw[sD,T];rfl
 have a7:(u.toList==[102,97,108,115,101])=decide (s=[102,97,108,115,101]):=by rw[sD,T];rfl
 have a8:(u.toList==[116,114,117,101])=decide (s=[116,114,117,101]):=by rw[sD,T];rfl
 have a0:=H T
 go_in
 go_wp2_with fail;rw[bf.o];apply HW.o.m;rintro J j ⟨rfl,h1,k1⟩;have p:=H h1;have n:=H ((gB.of_below BW).t k1);have c:j.heap[w.heap.size]?=O (Pp gG 67 (0,0)):=by rw[k1.block _ (ae HZ.o) (by have:=t.o;omega)];exact HZ
 have a1:=H (HE.o.only p.hb a4 n);have ad:=aA a4 n.size;by_cases y:s=[110,117,108,108]
 ·rw[aB y]at a6;have g:L1 (C=O (jj (VT k) 0 0 0 [],q)):=by unfold Hid;rw[<-e.o,ai y]
  obtain⟨W,X,r2,r3,r4,r5,r6⟩:=qu c;obtain⟨K,L,M,P,Q,R,S⟩:=uj 0 1 2 3 4 5 6 c;have a:=H (xO (k:=k) p n c 0 0 0 [] t);go_wp2;refine av (v:=N1 #[I U 0,I U 0,I U (0:Nat),MV (ge []),Z N 0 0,Z N 0 0,Z N 0 0]) ?_ rfl ?_;·exact aE eR _ _ w.heap.size 67 _ _ _ rfl a.1 aK rfl aG
  exact kB.some_ (g) a.2.1 a.2.2.1 a.2.2.2
 ·rw[ar y]at a6;by_cases F:s=[102,97,108,115,101]
  ·rw[aB F]at a7;have g:L1 (C=O (jj (VT k) 1 0 0 [],q)):=by unfold Hid;rw[<-e.o,ah y,ai F]
   obtain⟨W,X,r2,r3,r4,r5,r6⟩:=qu c;obtain⟨K,L,M,P,Q,R,S⟩:=uj 0 1 2 3 4 5 6 c;have a:=H (xO (k:=k) p n c 1 0 0 [] t);go_wp2;refine av (v:=N1 #[I U 1,I U 0,I U (0:Nat),MV (ge []),Z N 0 0,Z N 0 0,Z N 0 0]) ?_ rfl ?_;·exact aE eR _ _ w.heap.size 67 _ _ _ rfl a.1 aK rfl aG
   exact kB.some_ (g) a.2.1 a.2.2.1 a.2.2.2
  ·rw[ar F]at a7;by_cases c2:s=[116,114,117,101]
   ·rw[aB c2]at a8;have g:L1 (C=O (jj (VT k) 1 1 0 [],q)):=by unfold Hid;rw[<-e.o,ah y,ah F,ai c2]
    obtain⟨W,X,r2,r3,r4,r5,r6⟩:=qu c;obtain⟨K,L,M,P,Q,R,S⟩:=uj 0 1 2 3 4 5 6 c;have a:=H (xO (k:=k) p n c 1 1 0 [] t);go_wp2;refine av (v:=N1 #[I U 1,I U 1,I U (0:Nat),MV (ge []),Z N 0 0,Z N 0 0,Z N 0 0]) ?_ rfl ?_;·exact aE eR _ _ w.heap.size 67 _ _ _ rfl a.1 aK rfl aG
    exact kB.some_ (g) a.2.1 a.2.2.1 a.2.2.2
   ·rw[ar c2]at a8;rw[ah y,ah F,ah c2]at e;have a3:=H (PU a1 ad u a5);rw[a0.o]at a3;go_wp2_with fail;apply a3.o.m;rintro J w2 ⟨⟨ac,b,rfl,x⟩,D⟩;have a2:=H (p.o.other D);have aa:=H (n.t (.of_below D));have z:=(D.block _ (ae c)).t c;have bd:=H (a1.below ad D);have bm:=aA ad D.size;unfold kj at x;cases bb:kE s with
    |some A=>
     rw[bb]at x e;simp only[]at x e;obtain⟨rfl,rfl⟩:=x;have HT:=H (OP a2);cases ba:iM q with
     |some q2=>
      rw[ba]at HT e;simp only[]at e;have g:=H e.s;go_wp2_with fail;apply HT.o.m;rintro J w3 ⟨rfl,h3,V⟩;have p:=H (show Sc B bs ao cap data d f i w3 q2 from h3);have n:=H (aa.t V);have c:=(V.block _ (ae z) (by have:=t.o;omega)).t z;obtain⟨W,X,r2,r3,r4,r5,r6⟩:=qu c;obtain⟨K,L,M,P,Q,R,S⟩:=uj 0 1 2 3 4 5 6 c;have a:=H (xO (k:=k) p n c 9 ac 0 [] t);go_wp2;refine av (v:=N1 #[I U 9,I U ac,I U (0:Nat),MV (ge []),Z N 0 0,Z N 0 0,Z N 0 0]) ?_ rfl ?_;·exact aE eR _ _ w.heap.size 67 _ _ _ rfl a.1 aK rfl aG
      exact kB.some_ (g) a.2.1 a.2.2.1 a.2.2.2
     |none=>
      rw[ba]at HT e;simp only[]at e;have g:=H e.s;go_wp2_with fail;apply HT.o.m;rintro J w3 ⟨rfl,h3,V⟩;have p:=H (show Sc B bs ao cap data d f i w3 q from h3);have n:=H (aa.t V);have c:=(V.block _ (ae z) (by have:=t.o;omega)).t z;obtain⟨W,X,r2,r3,r4,r5,r6⟩:=qu c;obtain⟨K,L,M,P,Q,R,S⟩:=uj 0 1 2 3 4 5 6 c;have a:=H (xO (k:=k) p n c 2 ac 0 [] t);go_wp2;refine av (v:=N1 #[I U 2,I U ac,I U (0:Nat),MV (ge []),Z N 0 0,Z N 0 0,Z N 0 0]) ?_ rfl ?_;·exact aE eR _ _ w.heap.size 67 _ _ _ rfl a.1 aK rfl aG
      exact kB.some_ (g) a.2.1 a.2.2.1 a.2.2.2
    |none=>
     rw[bb]at x e;simp only[]at x e;subst x;have v:=H (Od bd bm u a5);rw[a0.o]at v;unfold oz at v;cases a9:jm s with
     |none=>rw[a9]at v e;simp only[]at v e;have g:=H e.s;go_wp2_with fail;apply v.o.m;rintro J w3 ⟨rfl,E⟩;exact⟨rfl,kB.none_ g (aa.t (.of_below E))⟩
     |some al=>
      obtain⟨n2,p2⟩:=al;rw[a9]at v e;simp only[]at v e;have g:=H e.s;go_wp2_with fail;apply v.o.m;rintro J w3 ⟨rfl,E⟩;have p:=H (a2.o.other E);have n:=H (aa.t (.of_below E));have c:=(E.block _ (ae z)).t z;obtain⟨W,X,r2,r3,r4,r5,r6⟩:=qu c;obtain⟨K,L,M,P,Q,R,S⟩:=uj 0 1 2 3 4 5 6 c;have a:=H (xO (k:=k) p n c 3 n2 p2 [] t);go_wp2;refine av (v:=N1 #[I U 3,I U n2,I U (p2:Nat),MV (ge []),Z N 0 0,Z N 0 0,Z N 0 0]) ?_ rfl ?_;·exact aE eR _ _ w.heap.size 67 _ _ _ rfl a.1 aK rfl aG
      exact kB.some_ (g) a.2.1 a.2.2.1 a.2.2.2
def FL{v:GI}{x:VT k}(b:Sc B bs ao cap data d f i j q)(t:gB bs w j)(z:j.heap[w.heap.size]?=O (Pp gG 67 (0,0)))(J:bs<w.heap.size)(C:gF (λa=>w.heap.size<=a/\a≠w.heap.size) k j v x)(e g l n o p s:GI)(D:v=N1 #[e,g,l,n,o,p,s]):let u:=((((((j.setCell ⟨w.heap.size,0,N⟩ e).setCell ⟨w.heap.size,1,N⟩ g).setCell ⟨w.heap.size,2,N⟩ l).setCell ⟨w.heap.size,3,N⟩ n).setCell ⟨w.heap.size,4,N⟩ o).setCell ⟨w.heap.size,5,N⟩ p).setCell ⟨w.heap.size,6,N⟩ s
  u.heap[w.heap.size]?=O (Pp #[e,g,l,n,o,p,s] 67 (0,0))/\gF (λa=>w.heap.size<=a) k u (N1 #[e,g,l,n,o,p,s]) x/\Sc B bs ao cap data d f i u q/\gB bs w u:=by
 have c:=lX j w.heap.size e g l n o p s;have E:=b.hb;have y:=b.lt;have A:=t.size;refine⟨pq z _ _ _ _ _ _ _,?_,?_,?_⟩
 ·rw[<-D];exact gF.m k (gF.keep k C (λa h1 h2=>c.block a h2 h1.2)) (λa h _=>h.1)
 ·exact⟨b.hb,by rw[c.block _ y Y];exact b.blk,b.dat.other (λa F=>c.block a Y Y),b.byt,b.len,b.lc,b.le,b.suf,b.ad⟩
 ·exact⟨c.os.t t.os,c.tape.t t.tape,c.output.t t.output,aA A c.size,λa h1 h2=>(c.block a Y Y).t (t.block a h1 h2)⟩
def PB:VO B bs ao cap data d f i 0:=by
 intro w r c h;have a:L1 (LT w.heap.size w (w.alloc (Pp gG 67))):=(aq _ _).alloc (ag _) _;show K8 Qe 192 #[M2 (O ⟨bs,0,N⟩),I U (13:Int)] w _
 go_in
 go_wp2_with fail;apply(qP 13 1 12 _ (P4 cO)).m;rintro b m ⟨rfl,rfl⟩;go_wp2_with fail;apply(nZ _).m;rintro b m ⟨rfl,rfl⟩;exact⟨rfl,kB.none_ rfl (.of_below a)⟩
def PA(hk:k<=11)(ih:VO B bs ao cap data d f i k):VO B bs ao cap data d f i (k+1):=by
 intro w r he h;have IH:=H ih;have x:=H h.lt;have BW:L1 (LT w.heap.size w (w.alloc (Pp gG 67))):=(aq _ _).alloc (ag _) _;have e:=H (h.other BW);have a:(w.alloc (Pp gG 67)).heap[w.heap.size]?=O (Pp gG 67 (0,0)):=bn _ _;have ac:=ew (eh h.hb h.lt);have HE:=H he;have b:L1 (gB bs w (w.alloc (Pp gG 67))):=.of_below BW;obtain⟨A,hR⟩:∃A,gj (k+1) r=A:=⟨_,rfl⟩;rw[hR];have c:=H hR;unfold gj at c;generalize a0:w.alloc (Pp gG 67)=al at *;have ad:L1 (w.alloc (Pp #[I U 0,I U 0,I U 0,MV {data:=#[]},Z N 0 0,Z N 0 0,Z N 0 0] 67)=al):=a0;rw[show 13-(k+1)=12-k by omega];have a1:(1:Int)<=((12-k:Nat):Int):=Y;have a2:((12-k:Nat):Int)<=12:=Y
 go_in
 go_wp2_with fail;rw[ad.o];apply(ou _ 1 12 _ a1 a2).m;rintro v m ⟨rfl,rfl⟩;go_wp2_with fail;apply(oe _).m;rintro v m ⟨rfl,rfl⟩;have l:=H (yd e {data:=#[91]} cO cO);rw[show bl {data:=#[91]}=[91]from rfl]at l;cases D:f_ [91] (f9 r)with
 |some F=>
  rw[D]at l c;simp only[]at c;go_wp2_with fail;apply l.o.m;rintro v s ⟨rfl,h2,n⟩;have z:=(n.block _ (ae a) hJ).t a;have y:=H (b.t n);have e:=H (show Sc B bs ao cap data d f i s F from h2);have b:=y;have a:=z;have u:L1 (K8 Qe 252 #[M2 (O ⟨bs,0,N⟩),I U (12-k:Nat)] s (ut B bs ao cap data d f i (k+1) A s)):=by unfold Hid;rw[<-c.o];exact Pn hk IH (HE.o.only e.hb ac b) e
  cases A with
  |none=>have t:L1 ((N:Option (VT (k+1)×List Nat))=N):=rfl;go_wp2_with fail;apply u.o.m;rintro v L ⟨rfl,p⟩;exact⟨rfl,kB.none_ (by first|exact t|rfl) (b.t p)⟩
  |some M=>
   obtain⟨P,E⟩:=M;have t:L1 ((O (P,E):Option (VT (k+1)×List Nat))=O (P,E)):=rfl;go_wp2_with fail;apply u.o.m;rintro v L ⟨K,rfl,R,h3,p⟩;have C:=(p.block _ (ae a) hJ).t a;have S:=H (FL h3 (b.t p) C x (gF.m (k+1) R (λaa h _=>by have h1:_<=aa:=h;have:=ae a;exact⟨Y,Y⟩)));obtain⟨kd,nn,pp,V,ia,il,ic,ka,kl,kc,fa,fl,fc,rfl⟩:=gF.form R;have a:=C;obtain⟨r0,r1,r2,r3,r4,r5,r6⟩:=qu a;obtain⟨W,X,f2,f3,f4,f5,f6⟩:=uj 0 1 2 3 4 5 6 a;have g:=H (S _ _ _ _ _ _ _ rfl);go_wp2;refine av (v:=N1 #[I U kd,I U nn,I U pp,MV V,Z ia il ic,Z ka kl kc,Z fa fl fc]) ?_ rfl ?_;·exact aE eO _ _ w.heap.size 67 _ _ _ rfl g.1 aK rfl aG
   exact kB.some_ (by first|exact t|rfl) g.2.1 g.2.2.1 g.2.2.2
 |none=>
  rw[D]at l c;simp only[]at c;go_wp2_with fail;apply l.o.m;rintro v s ⟨rfl,h2,n⟩;have z:=(n.block _ (ae a) hJ).t a;have y:=H (b.t n);have e:=H (show Sc B bs ao cap data d f i s (f9 r)from h2);have b:=y;have a:=z;have l:=H (yd e {data:=#[60,60]} cO cO);rw[show bl {data:=#[60,60]}=[60,60]from rfl,jq]at l;cases D:f_ [60,60] (f9 r)with
  |some F=>
   rw[D]at l c;simp only[]at c;go_wp2_with fail;apply l.o.m;rintro v s ⟨rfl,h2,n⟩;have z:=(n.block _ (ae a) hJ).t a;have y:=H (b.t n);have e:=H (show Sc B bs ao cap data d f i s F from h2);have b:=y;have a:=z;have u:L1 (K8 Qe 197 #[M2 (O ⟨bs,0,N⟩),I U (12-k:Nat)] s (ut B bs ao cap data d f i (k+1) A s)):=by unfold Hid;rw[<-c.o];exact Kg hk IH (HE.o.only e.hb ac b) e
   cases A with
   |none=>have t:L1 ((N:Option (VT (k+1)×List Nat))=N):=rfl;go_wp2_with fail;apply u.o.m;rintro v L ⟨rfl,p⟩;exact⟨rfl,kB.none_ (by first|exact t|rfl) (b.t p)⟩
   |some M=>
    obtain⟨P,E⟩:=M;have t:L1 ((O (P,E):Option (VT (k+1)×List Nat))=O (P,E)):=rfl;go_wp2_with fail;apply u.o.m;rintro v L ⟨K,rfl,R,h3,p⟩;have C:=(p.block _ (ae a) hJ).t a;have S:=H (FL h3 (b.t p) C x (gF.m (k+1) R (λaa h _=>by have h1:_<=aa:=h;have:=ae a;exact⟨Y,Y⟩)));obtain⟨kd,nn,pp,V,ia,il,ic,ka,kl,kc,fa,fl,fc,rfl⟩:=gF.form R;have a:=C;obtain⟨r0,r1,r2,r3,r4,r5,r6⟩:=qu a;obtain⟨W,X,f2,f3,f4,f5,f6⟩:=uj 0 1 2 3 4 5 6 a;have g:=H (S _ _ _ _ _ _ _ rfl);go_wp2;refine av (v:=N1 #[I U kd,I U nn,I U pp,MV V,Z ia il ic,Z ka kl kc,Z fa fl fc]) ?_ rfl ?_;·exact aE eO _ _ w.heap.size 67 _ _ _ rfl g.1 aK rfl aG
    exact kB.some_ (by first|exact t|rfl) g.2.1 g.2.2.1 g.2.2.2
  |none=>
   rw[D]at l c;simp only[]at c;go_wp2_with fail;apply l.o.m;rintro v s ⟨rfl,h2,n⟩;have z:=(n.block _ (ae a) hJ).t a;have y:=H (b.t n);have e:=H (show Sc B bs ao cap data d f i s (f9 r)from h2);have b:=y;have a:=z;have l:=H (yd e {data:=#[60]} cO cO);rw[show bl {data:=#[60]}=[60]from rfl,jq]at l;cases D:f_ [60] (f9 r)with
   |some F=>
    rw[D]at l c;simp only[]at c;go_wp2_with fail;apply l.o.m;rintro v s ⟨rfl,h2,n⟩;have z:=(n.block _ (ae a) hJ).t a;have y:=H (b.t n);have e:=H (show Sc B bs ao cap data d f i s F from h2);have b:=y;have a:=z;have u:=H (OQ e);cases Q:jQ F with
    |none=>rw[Q]at u c;have t:L1 (A=N):=c.o.s;go_wp2_with fail;apply u.o.m;rintro v L ⟨rfl,p⟩;exact⟨rfl,kB.none_ (by first|exact t|rfl) (b.t p)⟩
    |some M=>
     obtain⟨J,E⟩:=M;rw[Q]at u c;have t:L1 (A=O (jj (VT k) 5 0 0 J,E)):=c.o.s;go_wp2_with fail;apply u.o.m;rintro v L ⟨K,rfl,rfl,h3,p⟩;have C:=(p.block _ (ae a) hJ).t a;have T:=H (b.t p);have e:=H h3;have b:=T;have a:=C;obtain⟨r0,r1,r2,r3,r4,r5,r6⟩:=qu a;obtain⟨W,X,f2,f3,f4,f5,f6⟩:=uj 0 1 2 3 4 5 6 a;have g:=H (xO (k:=k) e b a 5 0 0 J x);go_wp2;refine av (v:=N1 #[I U 5,I U 0,I U (0:Nat),MV (ge J),Z N 0 0,Z N 0 0,Z N 0 0]) ?_ rfl ?_;·exact aE eO _ _ w.heap.size 67 _ _ _ rfl g.1 aK rfl aG
     exact kB.some_ (by first|exact t|rfl) g.2.1 g.2.2.1 g.2.2.2
   |none=>
    rw[D]at l c;simp only[]at c;go_wp2_with fail;apply l.o.m;rintro v s ⟨rfl,h2,n⟩;have z:=(n.block _ (ae a) hJ).t a;have y:=H (b.t n);have e:=H (show Sc B bs ao cap data d f i s (f9 r)from h2);have b:=y;have a:=z;have l:=H (yd e {data:=#[40]} cO cO);rw[show bl {data:=#[40]}=[40]from rfl,jq]at l;cases D:f_ [40] (f9 r)with
    |some F=>
     rw[D]at l c;simp only[]at c;go_wp2_with fail;apply l.o.m;rintro v s ⟨rfl,h2,n⟩;have z:=(n.block _ (ae a) hJ).t a;have y:=H (b.t n);have e:=H (show Sc B bs ao cap data d f i s F from h2);have b:=y;have a:=z;have u:=H (Pr e);cases Q:j3 F with
     |none=>rw[Q]at u c;have t:L1 (A=N):=c.o.s;go_wp2_with fail;apply u.o.m;rintro v L ⟨rfl,p⟩;exact⟨rfl,kB.none_ (by first|exact t|rfl) (b.t p)⟩
     |some M=>
      obtain⟨J,E⟩:=M;rw[Q]at u c;have t:L1 (A=O (jj (VT k) 5 0 0 J,E)):=c.o.s;go_wp2_with fail;apply u.o.m;rintro v L ⟨K,rfl,rfl,h3,p⟩;have C:=(p.block _ (ae a) hJ).t a;have T:=H (b.t p);have e:=H h3;have b:=T;have a:=C;obtain⟨r0,r1,r2,r3,r4,r5,r6⟩:=qu a;obtain⟨W,X,f2,f3,f4,f5,f6⟩:=uj 0 1 2 3 4 5 6 a;have g:=H (xO (k:=k) e b a 5 0 0 J x);go_wp2;refine av (v:=N1 #[I U 5,I U 0,I U (0:Nat),MV (ge J),Z N 0 0,Z N 0 0,Z N 0 0]) ?_ rfl ?_;·exact aE eO _ _ w.heap.size 67 _ _ _ rfl g.1 aK rfl aG
      exact kB.some_ (by first|exact t|rfl) g.2.1 g.2.2.1 g.2.2.2
    |none=>
     rw[D]at l c;simp only[]at c;go_wp2_with fail;apply l.o.m;rintro v s ⟨rfl,h2,n⟩;have z:=(n.block _ (ae a) hJ).t a;have y:=H (b.t n);have e:=H (show Sc B bs ao cap data d f i s (f9 r)from h2);have b:=y;have a:=z;have l:=H (yd e {data:=#[47]} cO cO);rw[show bl {data:=#[47]}=[47]from rfl,jq]at l;cases D:f_ [47] (f9 r)with
     |some F=>
      rw[D]at l c;simp only[]at c;go_wp2_with fail;apply l.o.m;rintro v s ⟨rfl,h2,n⟩;have z:=(n.block _ (ae a) hJ).t a;have y:=H (b.t n);have e:=H (show Sc B bs ao cap data d f i s F from h2);have b:=y;have a:=z;have u:=H (DB e);cases Q:j7 F with
      |none=>rw[Q]at u c;have t:L1 (A=N):=c.o.s;go_wp2_with fail;apply u.o.m;rintro v L ⟨rfl,p⟩;exact⟨rfl,kB.none_ (by first|exact t|rfl) (b.t p)⟩
      |some M=>
       obtain⟨J,E⟩:=M;rw[Q]at u c;have t:L1 (A=O (jj (VT k) 4 0 0 J,E)):=c.o.s;go_wp2_with fail;apply u.o.m;rintro v L ⟨K,rfl,rfl,h3,p⟩;have C:=(p.block _ (ae a) hJ).t a;have T:=H (b.t p);have e:=H h3;have b:=T;have a:=C;obtain⟨r0,r1,r2,r3,r4,r5,r6⟩:=qu a;obtain⟨W,X,f2,f3,f4,f5,f6⟩:=uj 0 1 2 3 4 5 6 a;have g:=H (xO (k:=k) e b a 4 0 0 J x);go_wp2;refine av (v:=N1 #[I U 4,I U 0,I U (0:Nat),MV (ge J),Z N 0 0,Z N 0 0,Z N 0 0]) ?_ rfl ?_;·exact aE eO _ _ w.heap.size 67 _ _ _ rfl g.1 aK rfl aG
       exact kB.some_ (by first|exact t|rfl) g.2.1 g.2.2.1 g.2.2.2
     |none=>
      rw[D]at l c;simp only[]at c;go_wp2_with fail;apply l.o.m;rintro v s ⟨rfl,h2,n⟩;have z:=(n.block _ (ae a) hJ).t a;have y:=H (b.t n);have e:=H (show Sc B bs ao cap data d f i s (f9 r)from h2);have b:=y;have a:=z;have u:L1 (K8 Qe 256 #[M2 (O ⟨bs,0,N⟩)] s (ut B bs ao cap data d f i (k+1) A s)):=by unfold Hid;rw[<-c.o,<-rU];exact Pm (k:=k) (HE.o.only e.hb ac b) e
      cases A with
      |none=>have t:L1 ((N:Option (VT (k+1)×List Nat))=N):=rfl;go_wp2_with fail;apply u.o.m;rintro v L ⟨rfl,p⟩;exact⟨rfl,kB.none_ (by first|exact t|rfl) (b.t p)⟩
      |some M=>
       obtain⟨P,E⟩:=M;have t:L1 ((O (P,E):Option (VT (k+1)×List Nat))=O (P,E)):=rfl;go_wp2_with fail;apply u.o.m;rintro v L ⟨K,rfl,R,h3,p⟩;have C:=(p.block _ (ae a) hJ).t a;have S:=H (FL h3 (b.t p) C x (gF.m (k+1) R (λaa h _=>by have h1:_<=aa:=h;have:=ae a;exact⟨Y,Y⟩)));obtain⟨kd,nn,pp,V,ia,il,ic,ka,kl,kc,fa,fl,fc,rfl⟩:=gF.form R;have a:=C;obtain⟨r0,r1,r2,r3,r4,r5,r6⟩:=qu a;obtain⟨W,X,f2,f3,f4,f5,f6⟩:=uj 0 1 2 3 4 5 6 a;have g:=H (S _ _ _ _ _ _ _ rfl);go_wp2;refine av (v:=N1 #[I U kd,I U nn,I U pp,MV V,Z ia il ic,Z ka kl kc,Z fa fl fc]) ?_ rfl ?_;·exact aE eO _ _ w.heap.size 67 _ _ _ rfl g.1 aK rfl aG
       exact kB.some_ (by first|exact t|rfl) g.2.1 g.2.2.1 g.2.2.2
def G5:∀k,k<=12->VO B bs ao cap data d f i k
 |0,_=>PB
 |k+1,h=>PA Y (G5 k Y)
end
def kD{a:Type}(b:ByteArray)(d:List (List Nat×a)):List a:=(d.filter λc=>decide (ge c.1=b)).map Prod.snd
def gV{a:Type}(d:ByteArray)(b:List (List Nat))(c:List a):List a:=kD d (b.zip c)
def sq{f:Type}(a:ByteArray)(c:List (List Nat×f))(b:Nat)(k:List Nat)(e:f)(h:c[b]?=O (k,e)):kD a (c.take (b+1))=kD a (c.take b)++(if ge k=a then[e]else[]):=by
 unfold kD;rw[du,h,List.filter_append,bK];by_cases d:ge k=a;·simp[d]
 ·simp[d]
def tD{c:Type}(b:ByteArray)(a:List (List Nat×c)):(kD b a).length<=G a:=by unfold kD;rw[aw];exact List.length_filter_le _ _
def oJ{o p:Type}{R:o->p->Prop}(d:ByteArray):∀(c:List (List Nat)) (g:List o) (i:List p),G g=G i->(∀(a:Nat) (e:o) (f:p),g[a]?=O e->i[a]?=O f->R e f) ->(gV d c g).length=(gV d c i).length/\∀(a:Nat) (e:o) (f:p),(gV d c g)[a]?=O e->(gV d c i)[a]?=O f->R e f
 | [],g,i,_,_=>⟨rfl,λa e f h=>by simp[gV,kD]at h⟩
 |k::c,[],[],_,_=>⟨rfl,λa e f h=>by simp[gV,kD]at h⟩
 |k::c,[],f::i,h,_=>by cases h
 |k::c,e::g,[],h,_=>by cases h
 |k::c,e::g,f::i,h,s=>by
  have q:=oJ (R:=R) d c g i oT (λa j b m n=>s (a+1) j b (by simpa using m) u0);have e1:∀{t:Type} (j:t) (r:List t),gV d (k::c) (j::r)=if ge k=d then j::gV d c r else gV d c r:=λj r=>by unfold gV kD;rw[List.zip_cons_cons,List.filter_cons];by_cases l:ge k=d<;>simp[l]
  rw[e1,e1];by_cases l:ge k=d
  ·rw[ai l,ai l];refine⟨by simp[q.1],λa j b m n=>?_⟩;cases a with
   |zero=>simp at m n;subst m;subst n;exact s 0 _ _ rfl rfl
   |succ a=>exact q.2 a j b (by simpa using m) u0
  ·rw[ah l,ah l];exact q
structure It(w0:Gr)(b:Array GI)(w:Gr)(v:GI)(xs:List GI):Prop where
 below:LT w0.heap.size w0 w
 box:w.heap[w0.heap.size]?=O (Pp b 67 (0,0))
 own:w.ownsRow (w0.heap.size+1) 67 7 v (G xs) (xs.flatMap cellsOf)
def It.alloc{c w:Gr}{b:Array GI}{v:GI}{xs:List GI}(h:It c b w v xs)(a:Obj):It c b (w.alloc a) v xs:=
 ⟨h.below.alloc h.below.size a,mA _ h.box,h.own.alloc _⟩
def It.grow{e j d:Gr}{b:Array GI}{o p x:GI}{f:List GI}(h:It e b j o f){g i:Obj}{m:Nat}{n:List GI}(s:d.ownsRow (e.heap.size+1) 67 7 p m (f.flatMap cellsOf++n))(c:((j.alloc g).alloc i).grownBy d o.ownBlock)(r:m=G f+1:=by rfl)(t:n=cellsOf x:=by rfl):It e b d p (f++[x]):=by
 subst r;subst t;have h2:=(h.alloc g).alloc i;have k:∀a,a<e.heap.size+1->d.heap[a]?=((j.alloc g).alloc i).heap[a]?:=λa l=>c.block a (by have:=ae h2.box;omega) (λq=>by have:=(h2.own.lt a q.s).1;omega);refine⟨⟨c.os.t h2.below.os,c.tape.t h2.below.tape,c.output.t h2.below.output,aA h2.below.size c.size,λa l=>(k a Y).t (h2.below.block a l)⟩,by rw[k _ Y];exact h2.box,?_⟩;rw[ak,dE];simpa using s
def Cy{ad:Nat->Prop}{k:Nat}{f:Gr}{a7:GI}{a:gk (VT k)}(h:gF ad (k+1) f a7 a)(hl:a.keys.length=a.items.length)(bc:a.items.length<=200000)(g:ByteArray):K8 Qe 260 #[a7,MV g] f λba w'=>∃iv,ba=Ps iv/\kG (λr=>ad r/\r<f.heap.size) k (f.heap.size+1) (gV g a.keys a.items) w' iv/\LT f.heap.size f w':=by
 obtain⟨i0,hi,bq,br,bs⟩:=bu iV;obtain⟨iv,kv,fv,m,t,a5,al,a6,a0,a2⟩:=h.parts;obtain⟨ia,ic,rfl⟩:=jp al.1;obtain⟨ka,kc,rfl⟩:=jp a0.1;obtain⟨fa,fc,rfl⟩:=jp a2.1;have HI:=H al;have HK:=H a0;have A:=H a6;clear h a2 al a0 a6;obtain⟨l,hn⟩:∃l,G m=l:=⟨_,rfl⟩;have ao:a.keys.length=l:=Y;have b0:l<=200000:=Y;rw[ao,hn]at t;unfold nV at t;generalize (a.kind:Int)=kd at t;generalize a.n=nn at t;generalize (a.places:Int)=pp at t;generalize ge a.text=tt at t;subst t;have u:=H (And.intro hn (And.intro ao (And.intro hl a5)));clear hl bc a5 hn ao;obtain⟨b,hb⟩:∃b:Array GI,#[I U kd,I U nn,I U pp,MV tt,Z ia l ic,Z ka l kc,Z fa a.filters.length fc]=b:=⟨_,rfl⟩;have HB:=H hb;clear hb
 go_in
 go_wp2;go_loopw [5,11] (λbt q wr=>∃(d:Nat),d<=l/\q=I U d/\L1 (It f b wr bt (kD g ((a.keys.zip m).take d)))) (λ_ q _=>l-(intOf q).toNat)
 case atStart=>refine⟨0,aH _,rfl,⟨(aq _ _).alloc (ag _) _,?_,aX _ _ _ _⟩⟩;rw[bn,<-HB.o]
 case round=>
  obtain⟨d,K,rfl,w⟩:=hrel;rcases aV K with K|K
  ·subst K;go_wp2;go_ret;have e1:(a.keys.zip m).take d=a.keys.zip m:=bD (by rw[fp];have:=u.o;omega);have F:=w.o;rw[e1]at F;obtain⟨p1,p2⟩:=oJ (R:=λe i=>gF ad k f e i) g a.keys m a.items vf A;exact⟨_,rfl,⟨_,F.own,p1,λq e i o v=>gF.keep k (gF.m k (p2 q e i o v) (λr h1 h2=>⟨h1,h2⟩)) (λr _ hg=>F.below.block r hg)⟩,F.below⟩
  ·obtain⟨e,o⟩:∃e,m[d]?=O e:=⟨_,af vf⟩;obtain⟨i,v⟩:∃i,a.items[d]?=O i:=⟨_,af vf⟩;obtain⟨j,a4⟩:∃j,a.keys[d]?=O j:=⟨_,af vf⟩;have bb:∀e∈m,(cellsOf e).length=7:=λe o=>by obtain⟨q,bm,bo⟩:=cK o;obtain⟨i,v⟩:∃i,a.items[q]?=O i:=⟨_,af vf⟩;exact(A q e i (by rw[af bm,bo]) v).cells.1
   obtain⟨r,c,bf,b1,bw,bz,s⟩:=Dp HI.1 bb cO o;cases bf;obtain⟨g2,c2,bi,a3⟩:=uL HK.1 (show(a.keys.map λg=>MV (ge g))[d]?=O (MV (ge j))by rw[aY,a4];rfl);cases bi;have a8:=H (A d e i o v).cells;obtain⟨x,Q,S,T,L,P,M,V,X,W,C,E,D,p⟩:=gF.form (A d e i o v);have n:∀{B:L2} {aa:GI},f.cell? B=O aa->wr.cell? B=O aa:=λ{B aa} h=>by rw[w.o.below.cell (aC f B h)];exact h
   have HZ:=H (sq g (a.keys.zip m) d j e (by rw[eW];exact⟨a4,o⟩));have a1:=H (show(kD g ((a.keys.zip m).take d)).length<=l from aA (tD _ _) pt);have d0:wr.cell? ⟨r,d*7,N⟩=O (I U x):=n (s 0 _ (by rw[p];rfl));have d1:=n (s 1 _ (by rw[p];rfl));have d2:=n (s 2 _ (by rw[p];rfl));have d3:=n (s 3 _ (by rw[p];rfl));have d4:=n (s 4 _ (by rw[p];rfl));have d5:=n (s 5 _ (by rw[p];rfl));have d6:=n (s 6 _ (by rw[p];rfl));have dk:∀y:Obj,(wr.alloc y).cell? ⟨g2,d,N⟩=O (MV (ge j)):=λy=>by rw[World.cell?_alloc_lt _ _ _ (aC wr _ (n a3))];exact n a3
   have db:∀y:Obj,(wr.alloc y).cell? ⟨f.heap.size,5,N⟩=O (Z (O ⟨g2,0,N⟩) l kc):=λy=>by rw[World.cell?_alloc_lt _ _ _ (ae w.o.box),iI w.o.box,<-HB.o];rfl
   have z:=w;subst p;have b3:f.heap.size+1<=wr.heap.size:=ae z.box;by_cases J:ge j=g
   ·have hc:(((ge j).toList==g.toList))=PV:=by rw[ng,bT];exact J
    have ac:=H (HZ.t (by rw[ai J]));generalize ge j=a9 at *;generalize b2:kD g ((a.keys.zip m).take d)=xs at *;go_wp2_with (at_builtin;refine a_ _ rfl (.tmp 23) (.tmp 25) 29 rfl (f.heap.size+1) 67 i0 _ 7 112 dx hi bq br bs rfl cO _ (G xs) (xs.flatMap cellsOf) rfl ((z.o.own.alloc _).alloc _) ⟨wr.heap.size+1,0,N⟩ 1 1 [I U x,I U Q,I U S,MV T,Z L P M,Z V X W,Z C E D] rfl rfl ?hnews ?hone ?h63 ?hby ?hbs ?_)
    case hnews=>intro b4 aa hu;have:=bn (wr.alloc (Pp #[I U x,I U Q,I U S,MV T,Z L P M,Z V X W,Z C E D] 67)) (Pp #[I U x,I U Q,I U S,MV T,Z L P M,Z V X W,Z C E D] 67);rw[aL]at this;rw[pR,iI this];simpa using hu
    case hone=>exact a8.2
    case h63=>unfold maxLen;have:=a1.o;omega
    case hby=>have:=a1.o;omega
    case hbs=>simp;omega
    intro v6 w6 bv bd _;have H6:=H (z.grow (x:=N1 #[I U x,I U Q,I U S,MV T,Z L P M,Z V X W,Z C E D]) bv bd);have bx:IntKind.i64.wrap ((d:Int)+1)=((d+1:Nat):Int):=by rw[aU];omega
    go_wp2;go_roundw
    case rel=>exact⟨d+1,Y,by first|rfl|(congr 1),by rw[ac.o];exact H6⟩
    case measure=>simp[intOf];omega
   ·have hc:(((ge j).toList==g.toList))=P2:=by rw[ng,bk];exact J
    have ac:=H (HZ.t (by rw[ah J,cF]));generalize ge j=a9 at *;have H6:=H (z.alloc);go_wp2;go_roundw
    case rel=>exact⟨d+1,Y,by first|rfl|(congr 1),by rw[ac.o];exact H6 _⟩
    case measure=>simp[intOf];omega
def itemOf{k:Nat}(d:ByteArray)(c:Nat)(a:gk (VT k)):Option (VT k):=
 match gV d a.keys a.items with
 | [b]=>if kO b=c then O b else N
 |_=>N
def pO(f:Nat->Prop)(k:Nat)(g:Option (VT k))(a:Gr)(b:MB)(d:Gr):Prop:=
 LT a.heap.size a d/\match g with
  |some h=>∃e,b=Ps e/\gF (λc=>f c/\c<a.heap.size) k d e h
  |none=>b=gU 4
def pO.none_{c:Nat->Prop}{k:Nat}{a:Option (VT k)}{w w':Gr}(b:LT w.heap.size w w')(h:a=N):pO c k a w (gU 4) w':=by subst h;exact⟨b,rfl⟩
def pO.some_{P:Nat->Prop}{k:Nat}{e:Option (VT k)}{y:VT k}{c:GI}{w a:Gr}(b:LT w.heap.size w a)(h:e=O y)(f:gF (λd=>P d/\d<w.heap.size) k a c y):pO P k e w (Ps c) a:=by subst h;exact⟨b,c,rfl,f⟩
def Fr{v:Nat->Prop}{k:Nat}{a:Gr}{z:GI}{g:gk (VT k)}(h:gF v (k+1) a z g)(hl:g.keys.length=g.items.length)(a6:g.items.length<=200000)(o:ByteArray)(r:Nat):K8 Qe 198 #[z,MV o,I U r] a (pO v k (itemOf o r g) a):=by
 obtain⟨M,P,R,S,J,L,K,T,W,V,C,E,D,bc⟩:=gF.form h;have HC:L1 (∀p:Gr,LT a.heap.size a p->K8 Qe 260 #[z,MV o] p λm j=>∃t,m=Ps t/\kG (λf=>v f/\f<a.heap.size) k (p.heap.size+1) (gV o g.keys g.items) j t/\LT p.heap.size p j):=
  λp b=>(Cy (gF.keep (k+1) (gF.m (Q:=λf=>v f/\f<a.heap.size) (k+1) h (λf h1 h2=>⟨h1,h2⟩)) (λf _ hg=>b.block f hg)) hl a6 o).m (λm j ⟨t,h1,h2,h3⟩=>⟨t,h1,h2.m (λf h _=>h.1),h3⟩)
 subst bc;have A:L1 (LT a.heap.size a ((a.alloc (Pp #[I U M,I U P,I U R,MV S,Z J L K,Z T W V,Z C E D] 67)).alloc (Pp gG 67))):=
  ((aq _ _).alloc (ag _) _).alloc eA _
 have B:=H (HC _ A);unfold gG at B A;obtain⟨a4,ho⟩:∃a4,itemOf o r g=a4:=⟨_,rfl⟩;have d:=H ho;unfold itemOf at d;rw[ho];obtain⟨q,a5⟩:∃q,gV o g.keys g.items=q:=⟨_,rfl⟩;rw[a5]at d B
 go_in
 go_wp2_with fail;apply B.o.m;rintro m w2 ⟨t,rfl,hv,b2⟩;have w:w2.heap[a.heap.size+1]?=O (Pp gG 67 (0,0)):=by rw[b2.block _ eA];have:=bn (a.alloc (Pp #[I U M,I U P,I U R,MV S,Z J L K,Z T W V,Z C E D] 67)) (Pp gG 67);rw[aL]at this;exact this
 have s:=H (A.t (b2.m eB));have l:=H hv;have a9:((a.alloc (Pp #[I U M,I U P,I U R,MV S,Z J L K,Z T W V,Z C E D] 67)).alloc (Pp #[I U 0,I U 0,I U 0,MV {data:=#[]},Z N 0 0,Z N 0 0,Z N 0 0] 67)).heap.size=a.heap.size+1+1:=eA;rw[a9]at l;obtain⟨u,F⟩:∃u,a.heap.size+1=u:=⟨_,rfl⟩;rw[F]at w l;rw[F];have X:=H F;obtain⟨ia,ic,rfl⟩:=l.o.len;match q,d,l with
 | [],d,l=>go_wp2_with fail;apply(nZ _).m;rintro m j ⟨rfl,rfl⟩;exact⟨rfl,.none_ s (by rw[<-d.o])⟩
 |y1::y2::q,d,l=>have t1:((((y1::y2::q).length:Nat):Int)==1)=P2:=eB;generalize (y1::y2::q).length=nn at *;go_wp2_with fail;apply(nZ _).m;rintro m j ⟨rfl,rfl⟩;exact⟨rfl,.none_ s (by rw[<-d.o])⟩
 | [e],d,l=>
  obtain⟨f,c,bi,a8,bf,bd,hx,bb⟩:=l.o.at (i:=0) (y:=e) rfl;cases a8;simp only[]at d;have HX:=H hx;obtain⟨pp,al,a0,ao,a1,a3,a2,aa,ad,ac,rfl⟩:=gF.form2 hx;have n:∀x y,([I U (kO e:Int),I U (pC e),I U pp,MV (ge (tO e)),Z al a0 ao,Z a1 a3 a2,Z aa ad ac]:List GI)[x]?=O y->w2.cell? ⟨f,x,N⟩=O y:=λx y h=>by
   have:=bb x y h
   rwa [Nat.zero_mul,bH]at this
  have d0:=n 0 _ rfl;have d1:=n 1 _ rfl;have d2:=n 2 _ rfl;have d3:=n 3 _ rfl;have d4:=n 4 _ rfl;have d5:=n 5 _ rfl;have d6:=n 6 _ rfl;generalize pC e=ny at *;generalize ge (tO e)=ty at *;by_cases hk:kO e=r
  ·have t1:((kO e:Int)==(r:Int))=PV:=eB;rw[ai hk]at d;obtain⟨r0,r1,r2,r3,r4,r5,r6⟩:=qu w;obtain⟨f0,f1,f2,f3,f4,f5,f6⟩:=uj 0 1 2 3 4 5 6 w;have HZ:=H w;generalize (kO e:Int)=ky at *;go_wp2_with fail;apply(oe _).m;rintro m j ⟨rfl,ba⟩;subst ba;go_wp2;refine av (v:=N1 #[I U ky,I U ny,I U pp,MV ty,Z al a0 ao,Z a1 a3 a2,Z aa ad ac]) ?_ rfl ?_;·exact aE results198 _ _ (u) 67 _ _ _ rfl (pq HZ _ _ _ _ _ _ _) aK rfl aG
   exact .some_ (s.t ((lX j u _ _ _ _ _ _ _).below (by have:=s.o.size;omega) (by have:=X.o;omega))) d.s (gF.keep k HX (λg2 a7 hg3=>(lX j u _ _ _ _ _ _ _).block g2 hg3 (by have:=a7.2;have:=X.o;omega)))
  ·have t1:((kO e:Int)==(r:Int))=P2:=eB;rw[ah hk]at d;generalize (kO e:Int)=ky at *;go_wp2_with fail;apply(nZ _).m;rintro m j ⟨rfl,rfl⟩;exact⟨rfl,.none_ s (by rw[<-d.o])⟩
section
def gE(a:Nat):List Nat:=(Lib.decDigits a).map UInt8.toNat
def iZ(a:Nat):List Nat:=Qf (10-(gE a).length) 48++gE a
def iH(b r:List Nat):Option (List Nat):=match f_ b r with
 |none=>N
 |some a=>(f_ [32,10] a).or (f_ [13,10] a)
def jM:List Nat->List Nat->Option (List Nat)
 | [],r=>O r
 |a::b,r=>match iH (iZ a++[32,48,48,48,48,48,32,110]) r with
  |none=>N
  |some c=>jM b c
def jX(n:Nat)(b r:List Nat):Option (List Nat):=match f_ ([120,114,101,102,10,48,32]++gE (n+1)++[10]) r with
 |none=>N
 |some a=>match iH [48,48,48,48,48,48,48,48,48,48,32,54,53,53,51,53,32,102] a with
  |none=>N
  |some a=>jM b a
def Tryz.gPow : Tryz.prog.globalNamed "internal/strconv.uint64pow10" = O 0:=by kernel_rfl
structure qR(B:Nat)(w:Gr):Prop where
 err:p_ B w
 pow:Lib.TabIs Qe w "internal/strconv.uint64pow10" .u64 Lib.pow10Tab
 lp : 0<B
variable{B bs cap:Nat}{ao:Option L2}{data:List Nat}{c d f:GI}{w w':Gr}{r q:List Nat}
def qR.only(h:qR B w)(a:B<=bs)(b:B<=w.heap.size)(k:gB bs w w'):qR B w':=by have h1:=h.lp;refine⟨h.err.only a b k,?_,h.lp⟩;have:=h.pow;unfold Lib.TabIs World.var? at this ⊢;rw[Tryz.gPow]at this ⊢;simp only[Option.bind_some]at this ⊢;rw[k.block _ (aQ h1 b) (Nat.ne_of_lt (aQ h1 a))];exact this
def Sc.env(h:Sc B bs ao cap data c d f w r):B<=w.heap.size:=ew (eh h.hb h.lt)
def bg(w:Gr)(k:Nat)(b:Array Obj):LT w.heap.size w (Sort.grow (w.drewN k) b):=
 ⟨rfl,rfl,rfl,by simp[Sort.grow],λe a=>by simp[Sort.grow,Array.getElem?_append,a]⟩
def OJ(a:Nat):ge (gE a)=⟨(Lib.decDigits a).toArray⟩:=by
 unfold ge gE;congr 2;rw[fH];conv=>rhs;rw[<-List.map_id (Lib.decDigits a)]
 exact List.map_congr_left (λb _=>eA)
def io(h:qR B w)(i:B<=w.heap.size)(a:Nat)(g:a<=9223372036854775807):K8 Qe 97 #[I U a] w λb w'=>b=Ps (MV (ge (gE a)))/\LT w.heap.size w w':=by
 apply(Tryz.strconv_Itoa a Y Y w h.pow).m;rintro b w' ⟨rfl,k,e,rfl⟩;refine⟨?_,bg w k e⟩;rw[OJ];unfold Lib.itoa;rw[ah Y];rfl
def xx:∀(k a:Nat),a<10^(k+1)->(gE a).length<=k+1
 |0,a,h=>by unfold gE;rw[Lib.decDigits,dif_pos oT];simp
 |k+1,a,h=>by
  have b:=xx k (a/10) (by rw[Nat.div_lt_iff_lt_mul cO];rw[cY]at h;exact h);unfold gE at b ⊢;rw[Lib.decDigits];split;·simp
  ·rw[aw]at b ⊢;rw[ak,ej];omega
def Bw(a b:List Nat):ge (a++b)=ge a++ge b:=by unfold ge;rw[bK];apply e_;simp
def GC(a:List Nat):(ge a).size=G a:=by unfold ge;simp[ByteArray.size]
def OL(a:Nat):ge (Qf a 48)=⟨(Lib.repeatL [48] a).toArray⟩:=by
 unfold ge;congr 2;induction a with
 |zero=>rfl
 |succ a b=>rw[eY,bF,b];rfl
def Nx(h:qR B w)(u:B<=w.heap.size)(a:Nat)(A:a<=200000):K8 Qe 133 #[I U a,I U 10] w λg w'=>g=Ps (MV (ge (iZ a)))/\LT w.heap.size w w':=by
 have p:=H (io h u a Y);have y:(gE a).length<=10:=aA (xx 5 a Y) cO;have D:(ge (gE a)).size=(gE a).length:=GC _;have k:L1 (ge (iZ a)=⟨(Lib.repeatL [48] (10-(gE a).length)).toArray⟩++ge (gE a)):=by unfold Hid iZ;rw[Bw,OL]
 generalize ge (gE a)=l at *;generalize (gE a).length=b at *;generalize ge (iZ a)=v at *;have z:IntKind.i64.wrap (10-(l.size:Int))=((10-b:Nat):Int):=by rw[aU];omega
 go_in
 go_wp2_with fail;apply p.o.m;rintro g E ⟨rfl,s⟩;have j:=H s;go_wp2_with fail;rw[show max (0:Int) (10-(b:Int))=((10-b:Nat):Int)by omega];refine(Tryz.strings_Repeat {data:=#[48]} (10-b) _ Y (by simp[ByteArray.size];omega)).m ?_;rintro g F ⟨m,t⟩;obtain⟨e,i⟩:∃e:ByteArray,⟨(Lib.repeatL [48] (10-b)).toArray⟩=e:=⟨_,rfl⟩;have C:e.size<=10:=by rw[<-i];simp[ByteArray.size,Lib.repeatL_length]
 rw[show({data:=#[48]}:ByteArray).data.toList=[48]from rfl,i]at m;rw[i]at k;subst m;have n:=H (j.t (t.m j.size));have x:¬9223372036854775807<e.size+l.size:=Y;go_wp2;go_ret;exact⟨by rw[k.o];rfl,n⟩
def rj(B bs:Nat)(ao:Option L2)(cap:Nat)(data:List Nat)(c d f:GI)(b:Option (List Nat))(w:Gr)(a:MB)(w':Gr):Prop:=
 match b with
 |some q=>a=Ps (OW #[])/\Sc B bs ao cap data c d f w' q/\gB bs w w'
 |none=>a=gU 4/\gB bs w w'
def rj.none_{a:Option (List Nat)}(h:a=N)(k:gB bs w w'):rj B bs ao cap data c d f a w (gU 4) w':=by subst h;exact⟨rfl,k⟩
def rj.some_{a:Option (List Nat)}(h:a=O q)(b:Sc B bs ao cap data c d f w' q)(k:gB bs w w'):rj B bs ao cap data c d f a w (Ps (OW #[])) w':=by subst h;exact⟨rfl,b,k⟩
def Kn(h:Sc B bs ao cap data c d f w r)(g:ByteArray)(C:0<g.size)(D:g.size<=1000000):K8 Qe 195 #[M2 (O ⟨bs,0,N⟩),MV g] w (rj B bs ao cap data c d f (iH (bl g) r) w):=by
 have k:=H (vt h g C D);obtain⟨u,x⟩:∃u,iH (bl g) r=u:=⟨_,rfl⟩;rw[x];have a:=H x;unfold iH at a;cases e1:f_ (bl g) r with
 |none=>
  rw[e1]at k a
  go_in
  go_wp2_with fail;apply k.o.m;rintro b y ⟨rfl,h1,n⟩;go_wp2_with fail;apply(nZ _).m;rintro b w' ⟨rfl,rfl⟩;exact⟨rfl,.none_ a.s n⟩
 |some q=>
  rw[e1]at k a;simp only[]at a
  go_in
  go_wp2_with fail;apply k.o.m;rintro b y ⟨rfl,h1,n⟩;have i:=H (vt (show Sc B bs ao cap data c d f y q from h1) {data:=#[32,10]} cO cO);rw[show bl {data:=#[32,10]}=[32,10]from rfl]at i;have t:=H n;go_wp2_with fail;apply(oe _).m;rintro b w' ⟨rfl,j⟩;subst j;cases e2:f_ [32,10] q with
  |some F=>
   rw[e2]at i a;go_wp2_with fail;apply i.o.m;rintro b z ⟨rfl,h2,p⟩;have e:=H h2;have l:=H (t.t p);go_wp2_with fail;apply(oe _).m;rintro b w' ⟨rfl,j⟩;subst j;go_wp2
   go_end0
   exact .some_ a.s e l
  |none=>
   rw[e2]at i a;go_wp2_with fail;apply i.o.m;rintro b z ⟨rfl,h2,p⟩;have e:=H (vt (show Sc B bs ao cap data c d f z q from h2) {data:=#[13,10]} cO cO);rw[show bl {data:=#[13,10]}=[13,10]from rfl]at e;have l:=H (t.t p);cases v:f_ [13,10] q with
   |some J=>
    rw[v]at e a;go_wp2_with fail;apply e.o.m;rintro b E ⟨rfl,h3,s⟩;have A:=H h3;have m:=H (l.t s);go_wp2_with fail;apply(oe _).m;rintro b w' ⟨rfl,j⟩;subst j;go_wp2
    go_end0
    exact .some_ a.s A m
   |none=>rw[v]at e a;go_wp2_with fail;apply e.o.m;rintro b E ⟨rfl,h3,s⟩;have m:=H (l.t s);go_wp2_with fail;apply(nZ _).m;rintro b w' ⟨rfl,rfl⟩;exact⟨rfl,.none_ a.s m⟩
def IY(h:Sc B bs ao cap data c d f w r){j:Option L2}{a k:Nat}(g:c=Z j a k)(m:a<=200000):K8 Qe 194 #[M2 (O ⟨bs,0,N⟩)] w λb w'=>b=Ps (I U (a+1:Nat))/\∃i,w'=w.drewN i:=by
 subst g;have l:=rZ h.blk;have e:IntKind.i64.wrap ((a:Int)+1)=((a+1:Nat):Int):=by rw[aU];omega
 go_in
 go_wp2;go_ret;exact⟨by first|rfl|(rw[e]),0,rfl⟩
end
section
variable{B d cap:Nat}{ao:Option L2}{a:List Nat}{j A s:GI}{w w':Gr}{r q:List Nat}
def gB.drew{b:Nat}(w:Gr):gB b w w.drew:=.of_below (aq _ _).drew
def yy(e:Nat):∀b∈gE e,b<256:=by intro b c;obtain⟨f,_,rfl⟩:=cT.1 c;exact f.toNat_lt
def Nn(c:Nat):∀b∈iZ c,b<256:=by
 intro b e;rcases bG.1 e with h|h;·rw[(List.mem_replicate.1 h).2];decide
 ·exact yy c b h
def tableLines_none(c:List Nat)(b:Nat)(r:List Nat)(h:iH (iZ b++[32,48,48,48,48,48,32,110]) r=N):jM (b::c) r=N:=by rw[jM,h]
def tableLines_some(c:List Nat)(b:Nat)(r q:List Nat)(h:iH (iZ b++[32,48,48,48,48,48,32,110]) r=O q):jM (b::c) r=jM c q:=by rw[jM,h]
def Lg(he:qR B w)(h:Sc B d ao cap a j A s w r){oa:Option L2}{n oc:Nat}(hx:j=Z oa n oc)(hn:n<=200000)
  {t:List Nat} {b:Nat} (b7:∀i∈t,i<=200000) (b4:G t<=200000) (a5:w.ownsRow b 3 1 s (G t) (t.map λi:Nat=>I U i)) (b0:d<b):K8 Qe 140 #[M2 (O ⟨d,0,N⟩)] w (rj B d ao cap a j A s (jX n t r) w):=by
 have a3:=h.env;have T:=H h;obtain⟨v,hN⟩:∃v,n+1=v:=⟨_,rfl⟩;have W:=H (IY h.drew hx hn);rw[hN]at W;have HE:=H he;have bf:=H a5;obtain⟨pa,pc,a7⟩:=jp a5;obtain⟨X,hR⟩:∃X,jX n t r=X:=⟨_,rfl⟩;rw[hR];have g:=H hR;unfold jX at g;rw[hN]at g
 go_in
 go_wp2_with fail;refine om (λ_ _=>True) aG ?_;intro e;have l:=H (show True from trivial);refine tj 0 e l λe l=>?_;refine tj 1 e l λe l=>?_;refine tj 2 e l λe l=>?_;refine tj 3 e l λe l=>?_;refine on 4 e λx m=>?_;go_simp;apply W.o.m;rintro u w1 ⟨rfl,m1,a6⟩;have b1:LT w.drew.heap.size w.drew w1:=by rw[a6];exact u_ _ _
 clear a6;have a2:=H (T.o.drew.other b1);have ac:L1 (gB d w w1):=(gB.drew w).t (.of_below b1);clear b1 W;refine m _ _ trivial (λf p=>?_);clear e l m x;have e:=f;have l:=p;clear f p
 (try simp only[jd])
 refine on 5 e λx m=>?_;go_simp;have ba:=H (HE.o.only T.hb a3 ac);apply(io ba a2.env v Y).m;rintro u w2 ⟨rfl,b2⟩;have bi:=H (a2.o.other b2);have ad:=H (ac.t (.of_below b2));obtain⟨z,f⟩:∃z,ge (gE v)=z:=⟨_,rfl⟩;have ca:z.size<=10:=by rw[<-f,GC];exact aA (xx 5 v Y) cO
 have a8:L1 (bl z=gE v):=by unfold Hid;rw[<-f,ui _ (yy _)]
 rw[f];refine m _ _ trivial (λf p=>?_);have e:=f;have l:=p
 (try simp only[jd])
 have cd:¬9223372036854775807<7+z.size:=Y;obtain⟨D,hX⟩:∃D:ByteArray,{data:=#[120,114,101,102,10,48,32]}++z=D:=⟨_,rfl⟩;have cc:D.size<=17:=by rw[<-hX,ByteArray.size_append,show({data:=#[120,114,101,102,10,48,32]}:ByteArray).size=7 from rfl];omega
 have bt:L1 (bl D=[120,114,101,102,10,48,32]++gE v):=by unfold Hid;rw[<-hX,A8,a8.o];rfl
 refine on 6 e λx m=>?_;go_simp;refine m _ _ trivial (λf p=>?_);have e:=f;have l:=p
 (try simp only[jd])
 have ce:¬9223372036854775807<D.size+1:=Y;obtain⟨E,hY⟩:∃E:ByteArray,D++{data:=#[10]}=E:=⟨_,rfl⟩;have bx:E.size<=18/\0<E.size:=by rw[<-hY,ByteArray.size_append,show({data:=#[10]}:ByteArray).size=1 from rfl];omega
 have bv:L1 (bl E=[120,114,101,102,10,48,32]++gE v++[10]):=by unfold Hid;rw[<-hY,A8,bt.o];rfl
 refine on 7 e λx m=>?_;go_simp;refine m _ _ trivial (λf p=>?_);have e:=f;have l:=p
 (try simp only[jd])
 have K:=H (vt bi E bx.2 Y);rw[bv.o]at K;cases e1:f_ ([120,114,101,102,10,48,32]++gE v++[10]) r with
 |none=>
  rw[e1]at K g;refine on 8 e λx m=>?_;go_simp;apply K.o.m;rintro u w3 ⟨rfl,h3,k3⟩;have K3:=H (ad.t k3);refine m _ _ trivial (λf p=>?_);have e:=f;have l:=p
  (try simp only[jd])
  refine on 9 e λx m=>?_;go_simp;apply(nZ _).m;rintro u w' ⟨rfl,rfl⟩;exact⟨rfl,.none_ g.s K3⟩
 |some q=>
  rw[e1]at K g;simp only[]at g;refine on 8 e λx m=>?_;go_simp;apply K.o.m;rintro u w3 ⟨rfl,h3,k3⟩;have bm:=H (show Sc B d ao cap a j A s w3 q from h3);have al:=H (ad.t k3);refine m _ _ trivial (λf p=>?_);have e:=f;have l:=p
  (try simp only[jd])
  refine on 9 e λx m=>?_;go_simp;apply(oe _).m;rintro u w' ⟨rfl,hw⟩;subst hw;refine m _ _ trivial (λf p=>?_);have e:=f;have l:=p
  (try simp only[jd])
  refine oh aG ?_ _;have L:=H (Kn bm {data:=#[48,48,48,48,48,48,48,48,48,48,32,54,53,53,51,53,32,102]} cO cO);rw[show bl {data:=#[48,48,48,48,48,48,48,48,48,48,32,54,53,53,51,53,32,102]}=[48,48,48,48,48,48,48,48,48,48,32,54,53,53,51,53,32,102]from rfl]at L;cases e2:iH [48,48,48,48,48,48,48,48,48,48,32,54,53,53,51,53,32,102] q with
  |none=>rw[e2]at L g;go_wp2_with fail;apply L.o.m;rintro u w4 ⟨rfl,k4⟩;exact⟨rfl,.none_ g.s (al.t k4)⟩
  |some q2=>
   rw[e2]at L g;simp only[]at g;go_wp2_with fail;apply L.o.m;rintro u w4 ⟨rfl,h4,k4⟩;have bc:=H (al.t k4);have bo:=H h4;have c4:=qZ h4.blk;rw[a7]at c4;have bs:=H a7;obtain⟨Q,hL⟩:∃Q,G t=Q:=⟨_,rfl⟩;rw[hL]at c4 b4;have J:=H hL;go_wp2;go_loopw [21] (λaa wr=>∃(k:Nat) (q:List Nat),k<=Q/\aa=I U k/\L1 (Sc B d ao cap a j A s wr q)/\L1 (gB d w wr)/\L1 (jM (t.drop k) q=X)) (λaa _=>Q-(intOf aa).toNat)
   case atStart=>exact⟨0,q2,aH _,rfl,bo,bc,g⟩
   case round=>
    obtain⟨k,q,y,rfl,V,P,g⟩:=hrel;rcases aV y with y|y
    ·subst y;rw[<-J.o,List.drop_length]at g;go_wp2
     go_end0
     exact .some_ g.s V P
    ·obtain⟨i,S⟩:∃i,t[k]?=O i:=⟨_,af (by rw[J.o];exact y)⟩;have b5:=b7 i (cI S);have b3:t.drop k=i::t.drop (k+1):=by rw[aW (by rw[J.o];exact y)];congr 1;rw[af (by rw[J.o];exact y)]at S;simpa using S
     rw[b3]at g;have b8:=uf bf P b0;obtain⟨b9,c,a4,cg⟩:=uL b8 (show(t.map λi:Nat=>I U i)[k]?=O (I U i)by rw[aY,S];rfl);rw[bs.o,J.o]at a4;cases a4;have bb:=H (HE.o.only T.hb a3 P);have a1:=H (Nx bb V.env i b5);obtain⟨C,f⟩:∃C,ge (iZ i)=C:=⟨_,rfl⟩;have cb:C.size<=10:=by rw[<-f,GC,iZ,ak,bI];have:=xx 5 i Y;omega
     have a9:L1 (bl C=iZ i):=by unfold Hid;rw[<-f,ui _ (Nn _)]
     rw[f]at a1;have cf:¬9223372036854775807<C.size+8:=Y;obtain⟨F,hZ⟩:∃F:ByteArray,C++{data:=#[32,48,48,48,48,48,32,110]}=F:=⟨_,rfl⟩;have bz:F.size<=18/\0<F.size:=by rw[<-hZ,ByteArray.size_append,show({data:=#[32,48,48,48,48,48,32,110]}:ByteArray).size=8 from rfl];omega
     have bw:L1 (bl F=iZ i++[32,48,48,48,48,48,32,110]):=by unfold Hid;rw[<-hZ,A8,a9.o];rfl
     go_wp2_with fail;apply a1.o.m;rintro u w6 ⟨rfl,b6⟩;have bq:=H (V.o.other b6);have a0:=H (P.t (.of_below b6));have M:=H (Kn bq F bz.2 Y);rw[bw.o]at M;cases R:iH (iZ i++[32,48,48,48,48,48,32,110]) q with
     |none=>rw[R]at M;rw[tableLines_none _ _ _ R]at g;go_wp2_with fail;apply M.o.m;rintro u w7 ⟨rfl,k7⟩;exact⟨rfl,.none_ g.s (a0.t k7)⟩
     |some q3=>
      rw[R]at M;rw[tableLines_some _ _ _ _ R]at g;go_wp2_with fail;apply M.o.m;rintro u w7 ⟨rfl,h7,k7⟩;have br:=H h7;have bd:=H (a0.t k7);go_wp2;go_roundw
      case rel=>exact⟨k+1,q3,Y,by first|rfl|(congr 1),br,bd,g⟩
      case measure=>simp[intOf];omega
def lh(c:Nat)(b:gk (VT 11)):Option Int:=
 if b.keys.length=2 then match itemOf {data:=#[83,105,122,101]} 2 b with
  |none=>N
  |some e=>if pC e=((c+1:Nat):Int)then(itemOf {data:=#[82,111,111,116]} 9 b).map pC else N
 else N
def lG(f:Nat)(r:List Nat):Option (Int×List Nat):=match gg [116,114,97,105,108,101,114] r with
 |none=>N
 |some q=>match f_ [60,60] (f9 q)with
  |none=>N
  |some c=>match(js (gj 11) (G c+1) c).map (λb=>((⟨7,0,0,[],b.1.2,b.1.1,[]⟩:gk (VT 11)),b.2))with
   |none=>N
   |some (e,q)=>(lh f e).map λg=>(g,q)
def lJ(b:Nat)(r:List Nat):Option (List Nat):=match gg [115,116,97,114,116,120,114,101,102] r with
 |none=>N
 |some q=>match gg (gE b) q with
  |none=>N
  |some q=>match gJ q with
   |none=>N
   |some q=>match f_ [37,37,69,79,70] q with
    |none=>N
    |some q=>if(gJ q).getD q=[]then O []else N
def mW{x:Type}{f:List Nat->Option (x×List Nat)}(p:∀r v q,f r=O (v,q)->G q+1<=G r):∀(c:Nat) (r q:List Nat) (b:List (List Nat)×List x),js f c r=O (b,q)->b.1.length=b.2.length/\b.2.length+G q<=G r
 |0,r,q,b,h=>by cases h
 |c+1,r,q,b,h=>by
  simp only[js]at h;have D:=iz r;cases l:f_ [62,62] (f9 r)with
  |some n=>rw[l]at h;simp at h;have:=(gD l).1;rw[<-h.1,<-h.2];simp;omega
  |none=>
   rw[l]at h;simp only[]at h;cases e:f_ [47] (f9 r)with
   |none=>rw[e]at h;cases h
   |some n=>
    rw[e]at h;simp only[]at h;have F:=(gD e).1;cases i:j7 n with
    |none=>rw[i]at h;cases h
    |some z=>
     obtain⟨k,t⟩:=z;rw[i]at h;simp only[]at h;have J:=jN n 0 0 k t i;cases m:f t with
     |none=>rw[m]at h;cases h
     |some C=>
      obtain⟨v,u⟩:=C;rw[m]at h;simp only[]at h;cases g:js f c u with
      |none=>rw[g]at h;cases h
      |some o=>obtain⟨o,y⟩:=o;rw[g]at h;simp at h;have E:=mW p c u y o g;have:=p _ _ _ m;obtain⟨h1,h2⟩:=h;subst h1;subst h2;simp only[aj];omega
def EC(e f g h i k:GI)(c:Int)(b:Gr):(Instr.field 67 (N1 #[e,I U c,f,g,h,i,k]) 1).run Qe b=.ok (I U c) b:=by kernel_rfl
def Cv(_:Gr)(c:Int)(b:GI):Prop:=b=I U c
def PM(he:qR B w)(h:Sc B d ao cap a j A s w r){oa:Option L2}{n oc:Nat}(hx:j=Z oa n oc)(hn:n<=200000):K8 Qe 141 #[M2 (O ⟨d,0,N⟩)] w (kB B d ao cap a j A s Cv (lG n r) w):=by
 have b8:=h.env;have HE:=H he;have HB:=H h.hb;have R:=H (xy h {data:=#[116,114,97,105,108,101,114]});rw[show bl {data:=#[116,114,97,105,108,101,114]}=[116,114,97,105,108,101,114]from rfl]at R;obtain⟨M,hR⟩:∃M,lG n r=M:=⟨_,rfl⟩;rw[hR];have c:=H hR;unfold lG at c;have HX:=H hx;cases e1:gg [116,114,97,105,108,101,114] r with
 |none=>
  rw[e1]at R c
  go_in
  go_wp2_with fail;apply R.o.m;rintro f w1 ⟨rfl,h1,k1⟩;go_wp2_with fail;apply(nZ _).m;rintro f w' ⟨rfl,rfl⟩;exact⟨rfl,.none_ c.s k1⟩
 |some q=>
  rw[e1]at R c;simp only[]at c
  go_in
  go_wp2_with fail;apply R.o.m;rintro f w1 ⟨rfl,h1,k1⟩;have S:=H (yd (show Sc B d ao cap a j A s w1 q from h1) {data:=#[60,60]} cO cO);rw[show bl {data:=#[60,60]}=[60,60]from rfl]at S;have K1:=H k1;cases e2:f_ [60,60] (f9 q)with
  |none=>rw[e2]at S c;go_wp2_with fail;apply S.o.m;rintro f w2 ⟨rfl,h2,k2⟩;have L:=H (K1.t k2);go_wp2_with fail;apply(nZ _).m;rintro f w' ⟨rfl,rfl⟩;exact⟨rfl,.none_ c.s L⟩
  |some a2=>
   rw[e2]at S c;simp only[]at c;go_wp2_with fail;apply S.o.m;rintro f w2 ⟨rfl,h2,k2⟩;have ad:=H (show Sc B d ao cap a j A s w2 a2 from h2);have L:=H (K1.t k2);go_wp2_with fail;apply(oe _).m;rintro f w' ⟨rfl,v⟩;have v:=v.s;subst v;have m:=H (Kg (k:=11) cO (G5 11 cO) (HE.o.only HB b8 L).err ad);rw[show((12-11:Nat):Int)=1 from rfl]at m;have ct:G a2<=200000:=by have:=ad.o.le;have:=ad.o.len;omega
   cases e3:js (gj 11) (G a2+1) a2 with
   |none=>rw[e3]at m c;have T:L1 (M=N):=c.o.s;go_wp2_with fail;apply m.o.m;rintro f l ⟨rfl,k3⟩;exact⟨rfl,.none_ T (L.t k3)⟩
   |some ba=>
    obtain⟨⟨ks,vs⟩,q3⟩:=ba;have a8:=mW (λr b9 q h=>iQ h) _ _ _ _ e3;simp only[]at a8;rw[e3]at m c;simp only[aZ]at m c;obtain⟨e,a1⟩:∃e:gk (VT 11),(⟨7,0,0,[],vs,ks,[]⟩:gk (VT 11))=e:=⟨_,rfl⟩;have bv:e.keys=ks:=by rw[<-a1]
    have a9:e.items=vs:=by rw[<-a1]
    rw[a1]at m c;have a7:e.keys.length=e.items.length:=by rw[bv,a9];exact a8.1
    have bx:e.items.length<=200000:=by rw[a9];omega
    clear a1 e3 a8 bv a9;go_wp2_with fail;apply m.o.m;rintro f l ⟨b9,rfl,hv,h3,k3⟩;obtain⟨iv,kv,fv,ca,i,_,bt,_,bw,bs⟩:=gF.parts hv;obtain⟨x,y,rfl⟩:=jp bt.1;obtain⟨C,D,rfl⟩:=jp bw.1;obtain⟨p,t,rfl⟩:=jp bs.1;have bo:=H hv;have bm:=H h3;have K3:=H (L.t k3);clear hv h3 k3 m bt bw bs L ad;unfold nV at i;generalize (e.kind:Int)=E at i;generalize e.n=F at i;generalize (e.places:Int)=J at i;generalize ge e.text=K at i;generalize (G ca)=z at i;generalize e.filters.length=u at i;obtain⟨kl,a6⟩:∃kl,e.keys.length=kl:=⟨_,rfl⟩;rw[a6]at i a7;have ac:=H a6;have bi:=H a7;clear a6 a7;subst i;have a0:LT l.heap.size l (l.alloc (Pp #[I U E,I U F,I U J,MV K,Z x z y,Z C kl D,Z p u t] 67)):=(aq _ _).alloc (ag _) _;have a4:=H (gF.keep 12 bo (λX _ hg=>a0.block X hg));have b2:=H (bm.o.other a0);have K4:=H (K3.t (.of_below a0));clear a0 bo bm K3;by_cases a5:kl=2
    ·have g:L1 (M=(match itemOf {data:=#[83,105,122,101]} 2 e with|none=>N|some aa=>if pC aa=((n+1:Nat):Int)then(itemOf {data:=#[82,111,111,116]} 9 e).map pC else N).map λQ=>(Q,q3)):=by unfold Hid;rw[<-c.o];unfold lh;rw[ai (by rw[ac.o];exact a5)]
     clear c;subst a5;have bc:=H (Fr a4 (by rw[ac.o];exact bi) bx {data:=#[83,105,122,101]} 2);have bd:L1 (∀al:Gr,LT (l.alloc (Pp #[I U E,I U F,I U J,MV K,Z x z y,Z C 2 D,Z p u t] 67)).heap.size (l.alloc (Pp #[I U E,I U F,I U J,MV K,Z x z y,Z C 2 D,Z p u t] 67)) al->K8 Qe 198 #[N1 #[I U E,I U F,I U J,MV K,Z x z y,Z C 2 D,Z p u t],MV {data:=#[82,111,111,116]},I U (9:Nat)] al (pO (λX=>w2.heap.size<=X) 11 (itemOf {data:=#[82,111,111,116]} 9 e) al)):=
      λal b=>Fr (gF.keep 12 a4 (λX _ hg=>b.block X hg)) (by rw[ac.o];exact bi) bx {data:=#[82,111,111,116]} 9
     obtain⟨V,hN⟩:∃V,n+1=V:=⟨_,rfl⟩;rw[hN]at g;have bq:(l.alloc (Pp #[I U E,I U F,I U J,MV K,Z x z y,Z C 2 D,Z p u t] 67)).heap[l.heap.size]?=O (Pp #[I U E,I U F,I U J,MV K,Z x z y,Z C 2 D,Z p u t] 67 (0,0)):=bn _ _;have bb:=H bq;clear bq a4;go_wp2_with fail;apply(oe _).m;rintro f w' ⟨rfl,v⟩;subst v;go_wp2_with fail;apply bc.o.m;rintro f w5 ⟨W,h5⟩;cases e4:itemOf {data:=#[83,105,122,101]} 2 e with
     |none=>rw[e4]at h5 g;simp only[]at h5;subst h5;exact⟨rfl,.none_ g (K4.t (.of_below W))⟩
     |some aa=>
      rw[e4]at h5 g;obtain⟨ba,rfl,b0⟩:=h5;simp only[]at g;obtain⟨py,ya,yl,yc,cb,cf,cd,cc,cg,ce,rfl⟩:=gF.form2 b0;have a3:=H (b2.o.other W);have K5:=H (K4.t (.of_below W));have HZ:=H (IY a3 HX hn);rw[hN]at HZ;have B5:=H W;clear b0 W bc e4;generalize ge (tO aa)=ty;generalize cr:(kO aa:Int)=ky;generalize cs:pC aa=ny at *;have co:=EC (I U ky) (I U py) (MV ty) (Z ya yl yc) (Z cb cf cd) (Z cc cg ce) ny;go_wp2_with fail;apply HZ.o.m;rintro f w6 ⟨rfl,m6,bz⟩;have b6:LT w5.heap.size w5 w6:=by rw[bz];exact u_ _ _
      have b3:=H (a3.o.other b6);have K6:=H (K5.t (.of_below b6));have B6:=H (B5.t (b6.m B5.size));clear b6 bz HZ a3 K5 B5 m6;by_cases P:ny=(V:Int)
      ·rw[ai P]at g;have t1:(ny==(V:Int))=PV:=by simp[P]
       have bf:=H (bd w6 B6);have br:w6.heap[l.heap.size]?=O (Pp #[I U E,I U F,I U J,MV K,Z x z y,Z C 2 D,Z p u t] 67 (0,0)):=by rw[B6.o.block _ eA];exact bb
       obtain⟨d0,d1,d2,d3,d4,d5,d6⟩:=qu br;clear br P bd bb;go_wp2_with fail;apply(oe _).m;rintro f w' ⟨rfl,v⟩;subst v;go_wp2_with fail;apply bf.o.m;rintro f w7 ⟨b7,h7⟩;cases e5:itemOf {data:=#[82,111,111,116]} 9 e with
       |none=>rw[e5]at h7 g;simp only[]at h7;subst h7;exact⟨rfl,.none_ g (K6.t (.of_below b7))⟩
       |some Q=>rw[e5]at h7 g;obtain⟨ba,rfl,b1⟩:=h7;obtain⟨pz,za,zl,zc,ch,cl,cj,ci,cn,ck,rfl⟩:=gF.form2 b1;have b4:=H (b3.o.other b7);have K7:=H (K6.t (.of_below b7));have T:L1 (M=O (pC Q,q3)):=g.o;clear b1 b7 bf e5 g;generalize ge (tO Q)=tz;generalize (kO Q:Int)=kz;generalize pC Q=nz at *;have cp:=EC (I U kz) (I U pz) (MV tz) (Z za zl zc) (Z ch cl cj) (Z ci cn ck) nz;go_wp2;go_ret;exact .some_ T rfl b4 K7
      ·rw[ah P]at g;have t1:(ny==(V:Int))=P2:=by simp[P]
       clear P;go_wp2_with fail;apply(nZ _).m;rintro f w' ⟨rfl,rfl⟩;exact⟨rfl,.none_ g K6⟩
    ·have T:L1 (M=N):=by unfold Hid;rw[<-c.o];unfold lh;rw[ah (by rw[ac.o];exact a5)];rfl
     have t1:((kl:Int)==2)=P2:=eB;clear c;go_wp2_with fail;apply(nZ _).m;rintro f w' ⟨rfl,rfl⟩;exact⟨rfl,.none_ T K4⟩
def LZ(he:qR B w)(h:Sc B d ao cap a j A s w r)(n:Nat)(a6:n<=200000):K8 Qe 142 #[M2 (O ⟨d,0,N⟩),I U n] w (rj B d ao cap a j A s (lJ n r) w):=by
 have a3:=h.env;have HE:=H he;have HS:=H h;have t:=H (xy h.drew {data:=#[115,116,97,114,116,120,114,101,102]});rw[show bl {data:=#[115,116,97,114,116,120,114,101,102]}=[115,116,97,114,116,120,114,101,102]from rfl]at t;obtain⟨al,hR⟩:∃al,lJ n r=al:=⟨_,rfl⟩;rw[hR];have f:=H hR;unfold lJ at f;cases e1:gg [115,116,97,114,116,120,114,101,102] r with
 |none=>
  rw[e1]at t f
  go_in
  go_wp2_with fail;refine om (λ_ _=>True) aG ?_;intro b;have c:=H (show True from trivial);refine tj 0 b c λb c=>?_;refine tj 1 b c λb c=>?_;refine tj 2 b c λb c=>?_;refine on 3 b λl e=>?_;go_simp;apply t.o.m;rintro k w1 ⟨rfl,h1,P⟩;have z:=H ((gB.drew w).t P);refine e _ _ trivial (λg i=>?_);have b:=g;have c:=i
  (try simp only[jd])
  refine on 4 b λl e=>?_;go_simp;refine e _ _ trivial (λg i=>?_);have b:=g;have c:=i
  (try simp only[jd])
  refine tv 5 b c λb c=>?_;refine tv 6 b c λb c=>?_;refine tv 7 b c λb c=>?_;refine tv 8 b c λb c=>?_;refine tv 9 b c λb c=>?_;refine tv 10 b c λb c=>?_;refine on 11 b λl e=>?_;go_simp;refine e _ _ trivial (λg i=>?_);have b:=g;have c:=i
  (try simp only[jd])
  refine on 12 b λl e=>?_;go_simp;apply(nZ _).m;rintro k w' ⟨rfl,rfl⟩;exact⟨rfl,.none_ f.s z⟩
 |some q=>
  rw[e1]at t f;simp only[]at f
  go_in
  go_wp2_with fail;refine om (λ_ _=>True) aG ?_;intro b;have c:=H (show True from trivial);refine tj 0 b c λb c=>?_;refine tj 1 b c λb c=>?_;refine tj 2 b c λb c=>?_;refine on 3 b λl e=>?_;go_simp;apply t.o.m;rintro k w1 ⟨rfl,h1,P⟩;have aa:=H (show Sc B d ao cap a j A s w1 q from h1);have z:=H ((gB.drew w).t P);refine e _ _ trivial (λg i=>?_);have b:=g;have c:=i
  (try simp only[jd])
  refine on 4 b λl e=>?_;go_simp;refine e _ _ trivial (λg i=>?_);have b:=g;have c:=i
  (try simp only[jd])
  refine tj 5 b c λb c=>?_;refine tj 6 b c λb c=>?_;refine tj 7 b c λb c=>?_;refine tj 8 b c λb c=>?_;refine on 9 b λl e=>?_;go_simp;apply(io (HE.o.only HS.hb a3 z) aa.env n Y).m;rintro k w2 ⟨rfl,b2⟩;have a0:=H (aa.o.other b2);have K2:=H (z.t (.of_below b2));have u:=H (xy a0 (ge (gE n)));rw[ui _ (yy n)]at u;generalize ge (gE n)=a5 at *;refine e _ _ trivial (λg i=>?_);have b:=g;have c:=i
  (try simp only[jd])
  cases e2:gg (gE n) q with
  |none=>
   rw[e2]at u f;refine on 10 b λl e=>?_;go_simp;apply u.o.m;rintro k w3 ⟨rfl,h3,Q⟩;have C:=H (K2.t Q);refine e _ _ trivial (λg i=>?_);have b:=g;have c:=i
   (try simp only[jd])
   refine on 11 b λl e=>?_;go_simp;refine e _ _ trivial (λg i=>?_);have b:=g;have c:=i
   (try simp only[jd])
   refine on 12 b λl e=>?_;go_simp;apply(nZ _).m;rintro k w' ⟨rfl,rfl⟩;exact⟨rfl,.none_ f.s C⟩
  |some q2=>
   rw[e2]at u f;simp only[]at f;refine on 10 b λl e=>?_;go_simp;apply u.o.m;rintro k w3 ⟨rfl,h3,Q⟩;have a1:=H (show Sc B d ao cap a j A s w3 q2 from h3);have C:=H (K2.t Q);refine e _ _ trivial (λg i=>?_);have b:=g;have c:=i
   (try simp only[jd])
   refine on 11 b λl e=>?_;go_simp;refine e _ _ trivial (λg i=>?_);have b:=g;have c:=i
   (try simp only[jd])
   refine on 12 b λl e=>?_;go_simp;apply(oe _).m;rintro k w' ⟨rfl,m⟩;have m:=m.s;subst m;refine e _ _ trivial (λg i=>?_);have b:=g;have c:=i
   (try simp only[jd])
   refine oh aG ?_ _;have y:=H (EI a1);cases e3:gJ q2 with
   |none=>rw[e3]at y f;go_wp2_with fail;apply y.o.m;rintro k w4 ⟨rfl,h4,R⟩;have v:=H (C.t R);go_wp2_with fail;apply(nZ _).m;rintro k w' ⟨rfl,rfl⟩;exact⟨rfl,.none_ f.s v⟩
   |some q3=>
    rw[e3]at y f;simp only[]at f;go_wp2_with fail;apply y.o.m;rintro k w4 ⟨rfl,h4,R⟩;have v:=H (C.t R);have p:=H (vt (show Sc B d ao cap a j A s w4 q3 from h4) {data:=#[37,37,69,79,70]} cO cO);rw[show bl {data:=#[37,37,69,79,70]}=[37,37,69,79,70]from rfl]at p;cases e4:f_ [37,37,69,79,70] q3 with
    |none=>rw[e4]at p f;go_wp2_with fail;apply p.o.m;rintro k w5 ⟨rfl,F,x⟩;have D:=H (v.t x);clear F x;go_wp2_with fail;apply(nZ _).m;rintro k w' ⟨rfl,rfl⟩;exact⟨rfl,.none_ f.s D⟩
    |some J=>
     rw[e4]at p f;simp only[]at f;go_wp2_with fail;apply p.o.m;rintro k w5 ⟨rfl,F,x⟩;have ac:=H (show Sc B d ao cap a j A s w5 J from F);have D:=H (v.t x);clear F x p v;go_wp2_with fail;apply(oe _).m;rintro k w' ⟨rfl,m⟩;have m:=m.s;subst m;have X:=H (EI ac);go_wp2_with fail;apply X.o.m;rintro k w6 ⟨rfl,K,k6⟩;have ad:=H K;have K6:=H (D.t k6);have W:=H (xz K);clear K k6 X D ac;generalize (gJ J).getD J=V at *;generalize (gJ J).isSome=bb;go_wp2_with fail;apply W.o.m;rintro k w7 ⟨rfl,T,M⟩;have a2:L1 (Sc B d ao cap a j A s w7 V):=by unfold Hid;rw[M];exact ad.drewN T
     have K7:L1 (gB d w w7):=by unfold Hid;rw[M];exact K6.drewN T
     clear M W K6 ad T;by_cases E:V=[]
     ·subst E;rw[ai rfl]at f;go_wp2_with fail;apply(oe _).m;rintro k w' ⟨rfl,m⟩;have m:=m.s;subst m;go_wp2
      go_end0
      exact .some_ f.s a2 K7
     ·rw[ah E]at f;have a4:=List.length_pos_iff.2 E;obtain⟨S,L⟩:∃S,G V=S:=⟨_,rfl⟩;rw[L]at a4;rw[L];have t1:((S:Int)==0)=P2:=eB;clear E L;go_wp2_with fail;apply(nZ _).m;rintro k w' ⟨rfl,rfl⟩;exact⟨rfl,.none_ f.s K7⟩
end
section
variable{w w':Gr}
def lT:Nat->ByteArray
 |1=>{data:=#[65,83,67,73,73,72,101,120,68,101,99,111,100,101]}
 |2=>{data:=#[65,83,67,73,73,56,53,68,101,99,111,100,101]}
 |3=>{data:=#[82,117,110,76,101,110,103,116,104,68,101,99,111,100,101]}
 |4=>{data:=#[70,108,97,116,101,68,101,99,111,100,101]}
 |_=>{data:=#[]}
def kn(a:ByteArray):Nat->Nat->Nat
 |0,_=>0
 |b+1,k=>if lT k=a then k else kn a b (k+1)
def lL(a:ByteArray):Nat:=kn a 4 1
def wR(b:ByteArray):∀a k,kn b a k<k+a\/kn b a k=0
 |0,k=>P4 rfl
 |a+1,k=>by
  simp only[kn];split;·left;omega
  ·rcases wR b a (k+1)with h|h;·left;omega
   ·right;exact h
def ud(a:ByteArray):lL a<=4:=by have:=wR a 4 1;unfold lL;omega
def L3(k:Nat)(h1:1<=k)(b:k<=4)(w:Gr):K8 Qe 290 #[I U k] w λa w'=>a=Ps (MV (lT k))/\w'=w:=by
 match k,h1,b with
 |1,_,_=>go_enter func290,fS;go_wp2;go_ret;exact⟨rfl,rfl⟩
 |2,_,_=>go_enter func290,fS;go_wp2;go_ret;exact⟨rfl,rfl⟩
 |3,_,_=>go_enter func290,fS;go_wp2;go_ret;exact⟨rfl,rfl⟩
 |4,_,_=>go_enter func290,fS;go_wp2;go_ret;exact⟨rfl,rfl⟩
def MM(b:ByteArray)(w:Gr):K8 Qe 332 #[MV b] w λh w'=>h=Ps (I U (lL b:Nat))/\w'=w:=by
 obtain⟨f,i⟩:∃f,lL b=f:=⟨_,rfl⟩;rw[i];have a:=H i;unfold lL at a;clear i
 go_in
 go_wp2;go_loopw [3] (λj wr=>∃(d k:Nat),1<=k/\k+d=5/\j=I U k/\wr=w/\L1 (kn b d k=f)) (λj _=>5-(intOf j).toNat)
 case atStart=>exact⟨4,1,ag _,rfl,rfl,rfl,a⟩
 clear a
 case round=>
  obtain⟨d,k,q,s,rfl,rfl,a⟩:=hrel;cases d with
  |zero=>obtain rfl:k=5:=Y;go_wp2;go_ret;exact⟨by rw[<-a.o];rfl,rfl⟩
  |succ d=>
   have n:k<=4:=Y;have l:=H (L3 k q n wr);by_cases e:lT k=b
   ·have p:(((lT k).toList==b.toList))=PV:=by rw[ng,bT];exact e
    have g:L1 (k=f):=by unfold Hid;rw[<-a.o,kn,ai e]
    clear e a;generalize lT k=m at *;go_wp2_with fail;apply l.o.m;rintro h r ⟨rfl,c⟩;have c:=c.s;subst c;go_wp2;go_ret;exact⟨by rw[<-g.o];rfl,rfl⟩
   ·have p:(((lT k).toList==b.toList))=P2:=by rw[ng,bk];exact e
    have g:L1 (kn b d (k+1)=f):=by unfold Hid;rw[<-a.o,kn,ah e]
    clear e a;generalize lT k=m at *;go_wp2_with fail;apply l.o.m;rintro h r ⟨rfl,c⟩;have c:=c.s;subst c;go_wp2;go_roundw
    case rel=>exact⟨d,k+1,Y,Y,by first|rfl|(congr 1),by first|rfl|trivial,g⟩
    case measure=>simp[intOf];omega
def kt{k:Nat}(a:VT k):Nat×List Nat:=(kO a,tO a)
def iK:{k:Nat}->VT k->List (Nat×List Nat)
 |0,_=>[]
 |_+1,a=>(gk.items a).map kt
def A6:{k:Nat}->VT k->Prop
 |0,_=>True
 |_+1,a=>(gk.items a).length<=200000/\(gk.keys a).length<=200000/\∀b∈gk.items a,A6 b
def jK{k:Nat}(b:gk (VT k)):Option (List (Nat×List Nat)):=
 match gV {data:=#[70,105,108,116,101,114]} b.keys b.items with
 | []=>O []
 | [a]=>if kO a=4 then O [kt a]else if kO a=6 then O (iK a)else N
 |_=>N
def kC:List (Nat×List Nat)->Option (List Nat)
 | []=>O []
 |a::b=>if a.1=4/\1<=lL (ge a.2)then(kC b).map λr=>lL (ge a.2)::r else N
def ii{k:Nat}(a:gk (VT k)):Option (List Nat):=match jK a with
 |none=>N
 |some b=>kC b
def qN{d:Type}{s:ByteArray}{ks:List (List Nat)}{a:List d}{c:d}(h:c∈gV s ks a):c∈a:=by unfold gV kD at h;obtain⟨⟨e,b⟩,h1,rfl⟩:=cT.1 h;exact(fq (List.mem_filter.1 h1).1).2
def n6(c:List (Nat×List Nat))(w:Gr)(d:GI):Prop:=
 ∃(b:Nat->Prop) (k:Nat) (a:List (VT k)),kG b k 0 a w d/\a.map kt=c
def sJ(d:Option (List (Nat×List Nat)))(w:Gr)(a:MB)(w':Gr):Prop:=
 LT w.heap.size w w'/\match d with
  |some c=>∃b,a=Ps b/\n6 c w' b
  |none=>a=gU 4
def sJ.none_{a:Option (List (Nat×List Nat))}(b:LT w.heap.size w w')(h:a=N):sJ a w (gU 4) w':=by subst h;exact⟨b,rfl⟩
def sJ.some_{a:Option (List (Nat×List Nat))}{l:List (Nat×List Nat)}{v:GI}(b:LT w.heap.size w w')(h:a=O l)(c:n6 l w' v):sJ a w (Ps v) w':=by subst h;exact⟨b,v,rfl,c⟩
def gF.items{P:Nat->Prop}{k:Nat}{g:GI}{V:VT k}(h:gF P k w g V):∃(q:Nat) (b e d:GI),g=N1 #[I U (kO V:Int),I U (pC V),I U q,MV (ge (tO V)),b,e,d]/\n6 (iK V) w b/\(∃a n c,b=Z a n c)/\(∃a n c,e=Z a n c)/\∃a n c,d=Z a n c:=by
 cases k with
 |zero=>cases h
 |succ k=>obtain⟨b,e,d,r,p,o,f,j,m,l⟩:=gF.parts h;obtain⟨s,v,e1⟩:=jp f.1;obtain⟨t,x,e2⟩:=jp m.1;obtain⟨u,y,i⟩:=jp l.1;refine⟨_,b,e,d,p,⟨P,k,gk.items V,⟨r,f.1,o,j⟩,rfl⟩,⟨_,_,_,e1⟩,⟨_,_,_,e2⟩,⟨_,_,_,i⟩⟩
def LO{q:Nat->Prop}{k:Nat}{x:GI}{e:gk (VT k)}(h:gF q (k+1) w x e)(hl:e.keys.length=e.items.length)(T:e.items.length<=200000):K8 Qe 331 #[x] w (sJ (jK e) w):=by
 obtain⟨k0,k1,k2,k3,ja,jl,jc,ac,kl,ad,P,R,Q,aa⟩:=gF.form h;have K:L1 (∀l:Gr,LT w.heap.size w l->K8 Qe 260 #[x,MV {data:=#[70,105,108,116,101,114]}] l λf w'=>∃p,f=Ps p/\kG q k (l.heap.size+1) (gV {data:=#[70,105,108,116,101,114]} e.keys e.items) w' p/\LT l.heap.size l w'):=
  λl b=>(Cy (gF.keep (k+1) h (λm _ V=>b.block m V)) hl T _).m (λf w' ⟨p,h1,h2,h3⟩=>⟨p,h1,h2.m (λm h _=>h.1),h3⟩)
 subst aa;have y:L1 (LT w.heap.size w (w.alloc (Pp #[I U k0,I U k1,I U k2,MV k3,Z ja jl jc,Z ac kl ad,Z P R Q] 67))):=
  (aq _ _).alloc (ag _) _
 have z:=H (K _ y);obtain⟨J,C⟩:∃J,jK e=J:=⟨_,rfl⟩;have d:=H C;unfold jK at d;rw[C];obtain⟨o,S⟩:∃o,gV {data:=#[70,105,108,116,101,114]} e.keys e.items=o:=⟨_,rfl⟩;rw[S]at d z
 go_in
 go_wp2_with fail;apply z.o.m;rintro f s ⟨p,rfl,hv,M⟩;have n:=H (y.t (M.m eA));have j:=H hv;obtain⟨ia,F,rfl⟩:=j.o.len;match o,d,j with
 | [],d,j=>have t:L1 (n6 [] s (Z ia 0 F)):=⟨q,k,[],j.base,rfl⟩;go_wp2_with fail;apply(oe _).m;rintro f w' ⟨rfl,a⟩;have a:=a.s;subst a;go_wp2;go_ret;exact .some_ n d.s t
 |y1::y2::o,d,j=>
  obtain⟨r,B⟩:∃r,(y1::y2::o).length=r:=⟨_,rfl⟩;have a1:2<=r:=by rw[<-B];simp
  have t1:decide ((r:Int)<=1)=P2:=eB;rw[B];go_wp2_with fail;apply(nZ _).m;rintro f w' ⟨rfl,rfl⟩;exact⟨rfl,.none_ n (by rw[<-d.o])⟩
 | [g],d,j=>
  obtain⟨m,c,a5,W,a0,ao,hx,D⟩:=j.o.at (i:=0) (y:=g) rfl;cases W;simp only[]at d;obtain⟨a4,a2,a3,al,E,X,⟨qa,ql,qc,rfl⟩,⟨_,_,_,rfl⟩,_,_,_,rfl⟩:=gF.items hx;have L:=H X;have A:s.cell? ⟨m,0,N⟩=O (I U (kO g:Int)):=by have:=D 0 _ (by rw[E];rfl);rwa [Nat.zero_mul,bH]at this
  have d4:s.cell? ⟨m,4,N⟩=O (Z qa ql qc):=by have:=D 4 _ (by rw[E];rfl);rwa [Nat.zero_mul,bH]at this
  have t:L1 (n6 [kt g] s (Z (O ⟨m,0,N⟩) 1 F)):=⟨q,k,[g],j.base,rfl⟩;by_cases u:kO g=4
  ·rw[ai u]at d;rw[u]at A;go_wp2_with fail;apply(oe _).m;rintro f w' ⟨rfl,a⟩;have a:=a.s;subst a;go_wp2;go_ret;exact .some_ n d.s t
  ·rw[ah u]at d;have t4:((kO g:Int)==4)=P2:=eB;by_cases v:kO g=6
   ·rw[ai v]at d;rw[v]at A;go_wp2_with fail;apply(oe _).m;rintro f w' ⟨rfl,a⟩;have a:=a.s;subst a;go_wp2_with fail;apply(oe _).m;rintro f w' ⟨rfl,a⟩;have a:=a.s;subst a;go_wp2;go_ret;exact .some_ n d.s L
   ·rw[ah v]at d;have t6:((kO g:Int)==6)=P2:=eB;generalize (kO g:Int)=ky at *;go_wp2_with fail;apply(oe _).m;rintro f w' ⟨rfl,a⟩;have a:=a.s;subst a;go_wp2_with fail;apply(nZ _).m;rintro f w' ⟨rfl,rfl⟩;exact⟨rfl,.none_ n d.s⟩
def Eg:(Tryz.prog.info? 3).map (λa=>(a.zero,a.size,a.bytes))=O (O (I U 0),1,8):=by kernel_rfl
def sH(e:Option (List Nat))(w:Gr)(a:MB)(w':Gr):Prop:=
 LT w.heap.size w w'/\match e with
  |some b=>∃c,a=Ps c/\w'.ownsRow w.heap.size 3 1 c (G b) (b.map λd:Nat=>I U d)
  |none=>a=gU 4
def sH.none_{a:Option (List Nat)}(b:LT w.heap.size w w')(h:a=N):sH a w (gU 4) w':=by subst h;exact⟨b,rfl⟩
def sH.some_{a:Option (List Nat)}{l:List Nat}{v:GI}(b:LT w.heap.size w w')(h:a=O l)(d:w'.ownsRow w.heap.size 3 1 v (G l) (l.map λc:Nat=>I U c)):sH a w (Ps v) w':=by subst h;exact⟨b,v,rfl,d⟩
def n6.keep{l:List (Nat×List Nat)}{a:GI}(h:n6 l w a)(c:LT w.heap.size w w'):n6 l w' a:=by obtain⟨P,k,b,h1,h2⟩:=h;exact⟨P,k,b,h1.keep c,h2⟩
def n6.len{l:List (Nat×List Nat)}{v:GI}(h:n6 l w v):∃a c,v=Z a (G l) c:=by obtain⟨d,k,e,h1,h2⟩:=h;obtain⟨a,c,b⟩:=h1.len;exact⟨a,c,by rw[b,<-h2,aw]⟩
def n6.at{l:List (Nat×List Nat)}{v:GI}(h:n6 l w v){i:Nat}{x:Nat×List Nat}(a:l[i]?=O x):∃g c,v=Z (O ⟨g,0,N⟩) (G l) c/\∃(n:Int) (u:Nat) (o:Option L2) (q p:Nat) (r:Option L2) (t s:Nat) (b:Option L2) (f d:Nat),∀j z,([I U (x.1:Int),I U n,I U u,MV (ge x.2),Z o q p,Z r t s,Z b f d]:List GI)[j]?=O z->w.cell? ⟨g,i*7+j,N⟩=O z:=by
 obtain⟨P,k,A,h1,rfl⟩:=h;rw[aY]at a;cases m:A[i]? with
 |none=>rw[m]at a;cases a
 |some y=>rw[m]at a;cases a;obtain⟨g,c,D,e,_,_,C,B⟩:=h1.at m;obtain⟨u,o,q,p,r,t,s,b,f,d,rfl⟩:=gF.form2 C;exact⟨g,c,by rw[e,aw],pC y,u,o,q,p,r,t,s,b,f,d,B⟩
def IM{k:Nat}{b:gk (VT k)}(h:A6 (k:=k+1) b){c:List (Nat×List Nat)}(a:jK b=O c):G c<=200000:=by
 unfold jK at a;have h3:=h.2.2;split at a;·cases a;simp
 ·next d e=>
  have f:d∈b.items:=qN (s:={data:=#[70,105,108,116,101,114]}) (ks:=b.keys) (by rw[e];simp);split at a;·cases a;simp
  ·split at a
   ·cases a;have:=h3 d f;cases k with
    |zero=>exact aH _
    |succ k=>unfold iK;rw[aw];exact this.1
   ·cases a
 ·cases a
def LP{a3:Nat->Prop}{k:Nat}{aa:GI}{l:gk (VT k)}(h:gF a3 (k+1) w aa l)(hl:l.keys.length=l.items.length)(ad:A6 (k:=k+1) l):K8 Qe 310 #[aa] w (sH (ii l) w):=by
 obtain⟨i0,hi,bb,bc,bd⟩:=bu Eg;obtain⟨k0,k1,k2,k3,ja,jl,jc,bf,W,bi,a4,Q,a5,ba⟩:=gF.form h;have HC:L1 (∀A:Gr,LT w.heap.size w A->K8 Qe 331 #[aa] A (sJ (jK l) A)):=
  λA b=>LO (gF.keep (k+1) h (λR _ hg=>b.block R hg)) hl ad.1
 subst ba;have F:L1 (LT w.heap.size w (w.alloc (Pp #[I U k0,I U k1,I U k2,MV k3,Z ja jl jc,Z bf W bi,Z a4 Q a5] 67))):=
  (aq _ _).alloc (ag _) _
 have z:=H (HC _ F);obtain⟨u,hR⟩:∃u,ii l=u:=⟨_,rfl⟩;have e:=H hR;unfold ii at e;rw[hR];cases e1:jK l with
 |none=>
  rw[e1]at z e
  go_in
  go_wp2_with fail;apply z.o.m;rintro i s ⟨M,h2⟩;simp only[]at h2;subst h2;exact⟨rfl,.none_ (F.t (M.m eA)) e.s⟩
 |some o=>
  have a9:=IM ad e1;rw[e1]at z e;simp only[]at e
  go_in
  go_wp2_with fail;apply z.o.m;rintro i s ⟨M,v2,rfl,ao⟩;have g:=H (F.t (M.m eA));have HK:=H ao;obtain⟨na,nc,rfl⟩:=ao.len;obtain⟨v,B⟩:∃v,G o=v:=⟨_,rfl⟩;rw[B]at HK;rw[B];have t:=H B;have bq:v<=200000:=by rw[<-B];exact a9
  go_wp2;go_loopw [3,10] (λlv V wr=>∃(d:Nat) (f:List Nat),d<=v/\G f<=d/\V=I U d/\L1 (wr.ownsRow s.heap.size 3 1 lv (G f) (f.map λP:Nat=>I U P))/\L1 (LT s.heap.size s wr)/\L1 ((kC (o.drop d)).map (λr=>f++r)=u)) (λ_ V _=>v-(intOf V).toNat)
  case atStart=>exact⟨0,[],aH _,ag _,rfl,aX _ _ _ _,aq _ _,by unfold Hid;rw[<-e.o];simp⟩
  case round=>
   obtain⟨d,f,n,bs,rfl,L,p,e⟩:=hrel;rcases aV n with n|n
   ·subst n;rw[<-t.o,List.drop_length]at e;go_wp2;go_ret;exact .some_ (g.t (p.o.m g.size)) (by rw[<-e.o];simp[kC]) (zP L g.size)
   ·obtain⟨x,T⟩:∃x,o[d]?=O x:=⟨_,af (by rw[t.o];exact n)⟩;have a7:o.drop d=x::o.drop (d+1):=by rw[aW (by rw[t.o];exact n)];congr 1;rw[af (by rw[t.o];exact n)]at T;simpa using T
    rw[a7]at e;obtain⟨R,c,al,nn,pp,ia,il,ic,ka,W,kc,fa,Q,fc,m⟩:=(HK.keep p).at T;rw[t.o]at al;cases al;have d0:wr.cell? ⟨R,d*7,N⟩=O (I U (x.1:Int)):=m 0 _ rfl;have d1:=m 1 _ rfl;have d2:=m 2 _ rfl;have d3:=m 3 _ rfl;have d4:=m 4 _ rfl;have d5:=m 5 _ rfl;have d6:=m 6 _ rfl;obtain⟨E,y⟩:=x;simp only[]at d0 d3;have br:=ud (ge y);have q:L1 ((if E=4/\1<=lL (ge y)then(kC (o.drop (d+1))).map λr=>lL (ge y)::r else N).map (λr=>f++r)=u):=e;have K:=H (MM (ge y));generalize ge y=ac at *;generalize lL ac=j at *;have S:=p.o.size;by_cases h4:E=4
    ·subst h4;by_cases hF:1<=j
     ·rw[ai ⟨rfl,hF⟩]at q;have a2:L1 ((kC (o.drop (d+1))).map (λr=>(f++[j])++r)=u):=by unfold Hid;rw[<-q.o,Option.map_map];congr 1;funext r;simp
      go_wp2_with fail;apply(K _).m;rintro i D ⟨rfl,a⟩;have a:=a.s;subst a;go_wp2_with fail;apply(ou _ 1 4 _ Y Y).m;rintro i D ⟨rfl,a⟩;have a:=a.s;subst a;go_wp2_with fail;apply(oe _).m;rintro i w' ⟨rfl,a⟩;have a:=a.s;subst a;go_wp2_with (at_builtin;refine a_ _ rfl (.tmp 25) (.tmp 27) 52 rfl s.heap.size 3 i0 (I U 0) 1 8 cG hi bb bc bd rfl cO _ (G f) _ rfl ((L.alloc _).alloc _) ⟨wr.heap.size+1,0,N⟩ 1 1 [I U j] rfl rfl ?hnews ?hone ?h63 ?hby ?hbs ?_)
      case hnews=>intro bt bo C;have:=bn (wr.alloc (Pp #[I U 4,I U nn,I U pp,MV ac,Z ia il ic,Z ka W kc,Z fa Q fc] 67)) (Pp #[I U j] 3);rw[aL]at this;rw[pR,iI this];simpa using C
      case hone=>intro bo C;simp at C;subst C;rfl
      case h63=>unfold maxLen;omega
      case hby=>omega
      case hbs=>simp;omega
      intro v6 w6 bm a8 _;have a1:L1 (w6.ownsRow s.heap.size 3 1 v6 (f++[j]).length ((f++[j]).map λP:Nat=>I U P)):=by unfold Hid;rw[ak,bK];exact bm
      have a0:=H (((p.alloc S _).alloc eB _).grown a8 eB (λk hk=>(L.lt k hk).1));go_wp2;go_roundw
      case rel=>exact⟨d+1,f++[j],Y,eB,by first|rfl|(congr 1),a1,a0,a2⟩
      case measure=>simp[intOf];omega
     ·rw[ah (λh=>hF h.2)]at q;have a6:j=0:=Y;subst a6;have J:=H (λX=>(g.t (p.o.m g.size)).alloc (aA g.size S) X);go_wp2_with fail;apply(K _).m;rintro i D ⟨rfl,a⟩;have a:=a.s;subst a;go_wp2_with fail;apply(qP _ 1 4 _ Y).m;rintro i D ⟨rfl,a⟩;have a:=a.s;subst a;go_wp2_with fail;apply(nZ _).m;rintro i w' ⟨rfl,a⟩;have a:=a.s;subst a;exact⟨rfl,.none_ (J _) q.s⟩
    ·rw[ah (λh=>h4 h.1)]at q;have t4:((E:Int)==4)=P2:=eB;have J:=H (λX=>(g.t (p.o.m g.size)).alloc (aA g.size S) X);generalize (E:Int)=z1 at *;go_wp2_with fail;apply(K _).m;rintro i D ⟨rfl,a⟩;have a:=a.s;subst a;go_wp2_with fail;apply(nZ _).m;rintro i w' ⟨rfl,a⟩;have a:=a.s;subst a;exact⟨rfl,.none_ (J _) q.s⟩
end
