import Derived.Test.YtgkljcmjnphpeaaGreatDoorK01
set_option linter.unusedVariables false
set_option linter.unusedSimpArgs false
set_option maxHeartbeats 1000000
set_option maxRecDepth 100000
namespace Go.Proofs.YtgkljcmjnphpeaaGreatDoor
open Go.RowKit
def sG(b:List Nat):Nat->Nat->Nat
 |0,a=>a
 |c+1,a=>if a<b.length/\lM (nth b a)=true then sG b c (a+1)else a
def nt(a:List Nat)(p:Nat):Nat:=sG a (a.length-p) p
theorem Bd(b:List Nat):∀c a,a<=b.length->sG b c a<=b.length
 |0,a,d=>d
 |c+1,a,d=>by
  unfold sG;split;·rename_i e;exact Bd b c (a+1) (by omega)
  ·exact d
theorem KU{d:List Nat}{p:Nat}(a:p<=d.length):nt d p<=d.length:=Bd d _ p a
theorem zi{a:List Nat}{b:Nat}(d:b<a.length)(f:lM (nth a b)=true):nt a b=nt a (b+1):=by
 unfold nt;obtain⟨c,e⟩:∃c,a.length-b=c+1:=⟨a.length-b-1,by omega⟩;rw[e,show a.length-(b+1)=c by omega];conv=>lhs;unfold sG
 rw[aA ⟨d,f⟩]
theorem Aa{b:List Nat}{a:Nat}(c:¬ (a<b.length/\lM (nth b a)=true)):nt b a=a:=by
 unfold nt;cases b.length-a with
 |zero=>rfl
 |succ d=>unfold sG;rw[au c]
def bl(S:ByteArray):List Nat:=S.data.toList.map UInt8.toNat
theorem nM(a:ByteArray):(bl a).length=a.size:=by rw[bl,av,ee];rfl
theorem CI(a:ByteArray)(b:Nat)(c:b<a.size):(a[b]'c).toNat=nth (bl a) b:=by have d:b<a.data.size:=c;simp only[bl,nth,bI,bj];rw[ai (by simpa using d)];simp;rfl
theorem tP(a:ByteArray)(b:Nat)(c:b<a.size):nth (bl a) b<256:=by rw[<-CI a b c];exact UInt8.toNat_lt _
def gU(a:Int):Ending:=.panicked [{ v:=.iface 58 (.int .i64 a),recovered:=false }]
theorem Bw(a:Nat)(c:World):Calls Tryz.prog 250 #[.int .u8 a] c λb d=>b=.returned (.bool (lM a))/\d=c:=by
 have b:((a:Int)==0||(a:Int)==9||(a:Int)==10||(a:Int)==12||(a:Int)==13||(a:Int)==32)=lM a:=by rw[aZ];simp[lM];omega
 have:=iw a c;rw[b]at this;exact this
theorem C3(a:Nat)(f:World)(b:iQ a=none):Calls Tryz.prog 275 #[.int .u8 a] f λe g=>∃h,e=.returned (.tuple #[.int .u8 h,.bool false])/\g=f:=by
 unfold iQ at b;by_cases c:48<=a/\a<=57;·rw[aA c]at b;cases b
 rw[au c]at b;by_cases d:97<=a/\a<=102;·rw[aA d]at b;cases b
 rw[au d]at b;by_cases h3:65<=a/\a<=70;·rw[aA h3]at b;cases b
 have i:(decide ((48:Int)<=(a:Int))&&decide ((a:Int)<=57))=false:=by simp;omega
 have j:(decide ((97:Int)<=(a:Int))&&decide ((a:Int)<=102))=false:=by simp;omega
 have k:(decide ((65:Int)<=(a:Int))&&decide ((a:Int)<=70))=false:=by simp;omega
 clear b c d h3;go_enter Tryz.func275,gq;go_wp2_with (go_at_call 216;refine(xR _ _ _ _).mono ?_;rintro e g ⟨rfl,rfl⟩)
 go_ret2
 exact⟨_,rfl,rfl⟩
theorem yC{c b:Nat}(a:iQ c=some b):b<16:=by
 unfold iQ at a;split at a;·cases a;omega
 split at a;·cases a;omega
 split at a;·cases a;omega
 ·cases a
theorem E7(a:ByteArray)(k:Nat):bl (a.extract k a.size)=(bl a).drop k:=by unfold bl;rw[ByteArray.data_extract,Array.toList_extract,List.extract_eq_take_drop,List.map_take,List.map_drop];rw[aY (by rw[aU,av,ee];exact af _)]
theorem bp(b:ByteArray)(k a:Nat)(c:k+a<=b.size):bl (b.extract k (k+a))=((bl b).drop k).take a:=by unfold bl;rw[ByteArray.data_extract,Array.toList_extract,List.extract_eq_take_drop,List.map_take,List.map_drop];rw[show k+a-k=a by omega]
theorem ap(b c a:Nat):(⟨b,c,none⟩:Addr).add a=⟨b,c+a,none⟩:=by unfold Addr.add;split<;>simp_all
theorem Ck{h:World}{a c f g k:Nat}{b:Value}{i:List Value}(d:h.ownsRow a c g b f i)(j:k<a):some k≠b.ownBlock:=λe=>absurd (d.lt k e.symm).1 (by omega)
theorem nA.below{w:World}{B:Nat}{ao:Option Addr}{d:List Nat}{f:World}(g:nA w B ao d)(b:Below w.heap.size w f):nA f B ao d:=by intro c j;obtain⟨a,e,h,i,h3⟩:=g c j;exact⟨a,e,h,i,(b.cell (p:=⟨a,e+c,none⟩) (aB w _ h3)).trans h3⟩
theorem nA.other{w w':World}{B:Nat}{a:Option Addr}{l:List Nat}(d:nA w B a l)(f:∀k,k<B->w'.heap[k]?=w.heap[k]?):nA w' B a l:=by intro i g;obtain⟨b,h,e,c,h3⟩:=d i g;exact⟨b,h,e,c,by rw[World.cell?_of_block (w:=w) (f b c)];exact h3⟩
theorem sY{B:Nat}{d:TypeId}{k:Nat}{g:Value}{f:Nat}{i:List Value}{c h:World}(n:c.ownsRow B d k g f i)(b:Below c.heap.size c h):h.ownsRow B d k g f i:=by
 obtain⟨o,a⟩:=n;refine⟨o,?_⟩;rcases a with a | ⟨m,j,l,e1,e2,e,p⟩;·exact Or.inl a
 ·exact Or.inr ⟨m,j,l,e1,e2,by rw[b.block _ (ae e)];exact e,p⟩
def rK(a:Nat):Bool:=a==40||a==41||a==60||a==62||a==91||a==93||a==123||a==125||a==47||a==37
def pB(a:Nat):Bool:= !lM a && !rK a
def jq:Bool->List Nat->List Nat
 |_,[]=>[]
 |false,b::r=>if lM b then jq false r else if b=37 then jq true r else b::r
 |true,b::r=>if b=10\/b=13 then jq false r else jq true r
def gG(r:List Nat):List Nat:=jq false r
def g_:List Nat->List Nat
 | []=>[]
 |b::r=>if b=10\/b=13 then b::r else g_ r
def gH(s r:List Nat):Option (List Nat):=if s.isPrefixOf r then some (r.drop s.length)else none
def iA(r:List Nat):List Nat:=(gG r).takeWhile pB
def iZ(r:List Nat):List Nat:=(gG r).dropWhile pB
def gF(s r:List Nat):Option (List Nat):=if iA r=s then some (iZ r)else none
def iG(r:List Nat):Option (List Nat):=(gH [13,10] r).or ((gH [10] r).or (gH [13] r))
theorem q7:∀(b:Bool) (r:List Nat),(jq b r).length<=r.length
 |b,[]=>by cases b<;>simp[jq]
 |false,d::r=>by
  simp only[jq];have a:=q7 false r;have c:=q7 true r;split;·simp only[ag];omega
  ·split;·simp only[ag];omega
   ·exact af _
 |true,d::r=>by simp only[jq];have a:=q7 false r;have c:=q7 true r;split<;>simp only[ag]<;>omega
theorem jo(r:List Nat):(gG r).length<=r.length:=q7 false r
theorem ng:∀r:List Nat,(g_ r).length<=r.length
 | []=>af _
 |b::r=>by
  have:=ng r;simp only[g_];split;·exact af _
  ·simp only[ag];omega
theorem tX:∀r:List Nat,jq true r=jq false (g_ r)
 | []=>rfl
 |b::r=>by
  simp only[jq,g_];by_cases a:b=10\/b=13
  ·rw[aA a,aA a];have c:lM b=true:=by rcases a with rfl | rfl<;>rfl
   simp only[jq,c,if_true]
  ·rw[au a,au a];exact tX r
theorem om:∀r:List Nat,gG r=gG (r.dropWhile lM)
 | []=>rfl
 |b::r=>by
  unfold gG;rw[cE];cases a:lM b;·rfl
  ·simp only[jq,a,if_true];exact om r
theorem oV(r:List Nat):gG (37::r)=gG (g_ r):=by unfold gG;rw[<-tX];simp[jq,show lM 37=false from rfl]
theorem jz{b:Nat}{r:List Nat}(a:lM b=false)(c:b≠37):gG (b::r)=b::r:=by unfold gG;simp[jq,a,c]
theorem ie{s r c:List Nat}(a:gH s r=some c):c.length+s.length=r.length/\r.drop s.length=c:=by
 unfold gH at a;by_cases b:s.isPrefixOf r=true
 ·rw[aA b]at a;have:=(fF.1 b).length_le;cases a;exact⟨by rw[aU];omega,rfl⟩
 ·rw[au b]at a;cases a
theorem lx{p:Nat->Bool}(r:List Nat):(r.dropWhile p).length<=r.length:=(cT p).length_le
section
variable{B:Nat}{w:World}
def gC(a:List Nat):ByteArray:=⟨(a.map UInt8.ofNat).toArray⟩
theorem Fw:∀(a:List Nat) (r:ByteArray),(a.map (λd:Nat=>(d:Int))).foldl (λr c=>r.push (UInt8.ofNat c.toNat)) r=⟨r.data++(a.map UInt8.ofNat).toArray⟩
 | [],r=>by simp
 |b::a,r=>by simp only[bJ,fU];rw[Fw a];simp[ByteArray.push]
theorem zo(d:Addr)(e:Nat)(a:List Nat)(i:∀c,c<a.length->w.cell? (d.add c)=some (.int .u8 (nth a c:Nat))) :
  (convert 23 9 (.slice (some d) a.length e)).run Tryz.prog w=.ok (.string (gC a)) w:=by
 rw[fS w 23 9 5 (some d) a.length e aq dH cN];have h:=run_loadCells_list (P:= Tryz.prog) w d ((a.map (λb:Nat=>(b:Int))).map (Value.int .u8)) (λc k f=>by
  have g:c<a.length:=by have:=(aX.1 f).1;simpa using this
  rw[i c g];simp[ai g]at f;rw[<-f];simp[nth,ai g])
 simp only[av]at h;rw[run_bytesToString w d a.length e _ h,Fw];have j:ByteArray.empty.data=#[]:=rfl;rw[j];simp[gC]
theorem Ac{g:Value}{l:List Nat}(d:w.ownsRow B 5 1 g l.length (l.map λk:Nat=>.int .u8 (k:Int))) :
  (convert 23 9 g).run Tryz.prog w=.ok (.string (gC l)) w:=by
 rcases dK l.length with e | e
 ·obtain⟨ao,a,rfl⟩:=i_ d;have j:l=[]:=cU.1 e;subst j;cases ao with
  |none=>show(convert 23 9 (.slice none 0 a)).run Tryz.prog w=_;rw[fS w 23 9 5 none 0 a aq dH cN];rfl
  |some h=>exact zo h a [] (λc b=>by cases b)
 ·obtain⟨i,a,rfl,_⟩:=ut d e;refine zo ⟨i,0,none⟩ a l (λc b=>?_);have f:=d.cellAt c (by omega);rw[bj,ai b]at f;simp only[fX]at f;rw[aa];rw[show nth l c=l[c]by simp[nth,ai b]];simpa using f
theorem xG(a:ByteArray):gC (bl a)=a:=by
 unfold gC bl;rw[dZ];have:(UInt8.ofNat ∘ UInt8.toNat)=id:=by funext b;simp
 rw[this,List.map_id,Array.toArray_toList]
end
section
structure gQ(b:Nat)(w w':World):Prop where
 os:w'.os=w.os
 tape:w'.tape=w.tape
 output:w'.output=w.output
 size:w.heap.size<=w'.heap.size
 block:∀k,k<w.heap.size->k≠b->w'.heap[k]?=w.heap[k]?
theorem gQ.refl(b:Nat)(w:World):gQ b w w:=⟨rfl,rfl,rfl,af _,λ_ _ _=>rfl⟩
theorem gQ.trans{b:Nat}{f y g:World}(a:gQ b f y)(k:gQ b y g):gQ b f g:=
 ⟨k.os.trans a.os,k.tape.trans a.tape,k.output.trans a.output,aD a.size k.size,λe d c=>(k.block e (aC d a.size) c).trans (a.block e d c)⟩
theorem gQ.of_below{b:Nat}{w c:World}(a:Below w.heap.size w c):gQ b w c:=⟨a.os,a.tape,a.output,a.size,λe d _=>a.block e d⟩
theorem gQ.drewN{b:Nat}{w c:World}(a:gQ b w c)(n:Nat):gQ b w (c.drewN n):=⟨a.os,a.tape,a.output,a.size,a.block⟩
theorem gQ.setCell{b:Nat}{w w':World}(a:gQ b w w')(i:Nat)(v:Value):gQ b w (w'.setCell ⟨b,i,none⟩ v):=
 a.trans ⟨rfl,rfl,rfl,by simp[World.setCell],λk _ c=>jL _ c⟩
theorem gQ.below{b B:Nat}{w c:World}(a:gQ b w c)(d:B<=w.heap.size)(e:B<=b):Below B w c :=
 ⟨a.os,a.tape,a.output,a.size,λk f=>a.block k (by omega) (by omega)⟩
structure Sc(B bs:Nat)(ao:Option Addr)(cap:Nat)(data:List Nat)(d f g:Value)(w:World)(r:List Nat):Prop where
 hb:B<=bs
 blk:w.heap[bs]?=some (.cells #[.slice ao data.length cap,.int .i64 (data.length-r.length:Nat),d,f,g] 131 (0,0))
 dat:nA w B ao data
 byt:∀i,i<data.length->nth data i<256
 len:data.length<=200000
 lc:data.length<=cap/\cap<=9223372036854775807
 le:r.length<=data.length
 suf:data.drop (data.length-r.length)=r
 ad:∃bd o,ao=some ⟨bd,o,none⟩/\bd<B
variable{B bs cap:Nat}{ao:Option Addr}{data:List Nat}{d f g:Value}{w w':World}{r q:List Nat}
theorem Sc.c0(a:Sc B bs ao cap data d f g w r):w.cell? ⟨bs,0,none⟩=some (.slice ao data.length cap):=cb a.blk
theorem Sc.c1(a:Sc B bs ao cap data d f g w r):w.cell? ⟨bs,1,none⟩=some (.int .i64 (data.length-r.length:Nat)):=cb a.blk
theorem Sc.fz(a:Sc B bs ao cap data d f g w r)(i:Nat):w.frozen? ⟨bs,i,none⟩=false:=nP a.blk
theorem Sc.lt(a:Sc B bs ao cap data d f g w r):bs<w.heap.size:=ae a.blk
theorem Sc.other(a:Sc B bs ao cap data d f g w r)(b:Below w.heap.size w w'):Sc B bs ao cap data d f g w' r:=
 ⟨a.hb,by rw[b.block _ a.lt];exact a.blk,a.dat.below b,a.byt,a.len,a.lc,a.le,a.suf,a.ad⟩
theorem Sc.drewN(a:Sc B bs ao cap data d f g w r)(n:Nat):Sc B bs ao cap data d f g (w.drewN n) r:=⟨a.hb,a.blk,a.dat,a.byt,a.len,a.lc,a.le,a.suf,a.ad⟩
theorem Sc.at_(a:Sc B bs ao cap data d f g w r)(c:Nat)(l:c<=data.length):Sc B bs ao cap data d f g (w.setCell ⟨bs,1,none⟩ (.int .i64 c)) (data.drop c):=by
 have k:=a.hb;refine⟨a.hb,?_,?_,a.byt,a.len,a.lc,by rw[aU];omega,by rw[aU,show data.length-(data.length-c)=c by omega],a.ad⟩;·rw[lq _ a.blk,aU,show data.length-(data.length-c)=c by omega];rfl
 ·intro i h;obtain⟨b,j,e1,e2,e⟩:=a.dat i h;exact⟨b,j,e1,e2,by rw[cn _ (by show bs≠b;omega)];exact e⟩
theorem Sc.set(a:Sc B bs ao cap data d f g w r)(q:List Nat)(k:Nat)(c:r.drop k=q)(e:k<=r.length)(p:Nat)(b:p=data.length-r.length+k):Sc B bs ao cap data d f g (w.setCell ⟨bs,1,none⟩ (.int .i64 p)) q:=by have h:=a.le;have:=a.at_ p (by omega);rw[b,<-eA,a.suf,c]at this;rw[b];exact this
theorem Sc.nthOf(b:Sc B bs ao cap data d f g w r)(a:Nat)(c:a<r.length):nth r a=nth data (data.length-r.length+a):=by
 unfold Go.Proofs.YtgkljcmjnphpeaaGreatDoor.nth;rw[bI,bI];conv=>lhs;rw[<-b.suf]
 rw[dC]
theorem Sc.cons{b:Nat}{a:List Nat}(e:Sc B bs ao cap data d f g w (b::a)):data.length-(b::a).length<data.length/\nth data (data.length-(b::a).length)=b/\b<256/\∃c h,ao=some ⟨c,h,none⟩/\c<B/\w.cell? ⟨c,h+(data.length-(b::a).length),none⟩=some (.int .u8 (b:Nat)):=by
 have m:=e.le;have k:=e.nthOf 0 (by simp);have j:data.length-(b::a).length<data.length:=by simp only[ag]at m ⊢;omega
 have i:Go.Proofs.YtgkljcmjnphpeaaGreatDoor.nth data (data.length-(b::a).length)=b:=by rw[fI]at k;rw[<-k];rfl
 obtain⟨c,h,e1,e2,l⟩:=e.dat _ j;refine⟨j,i,by rw[<-i];exact e.byt _ j,c,h,e1,e2,by rw[l,i]⟩
theorem vY(a:Sc B bs ao cap data d f g w r) :
  Calls Tryz.prog 190 #[.pointer (some ⟨bs,0,none⟩)] w λb w'=>b=.returned (.int .i64 (r.length:Nat))/\∃c,w'=w.drewN c:=by
 have e:=a.c0;have h:=a.c1;have i:=a.le;have j:=a.len;have e1:((data.length:Int)-((data.length-r.length:Nat):Int))=((r.length:Nat):Int):=by omega
 generalize data.length-r.length=k at *;go_enter Tryz.func190,Tryz.ntmps190;go_wp2_with fail;go_quiet (fail);go_wp2;go_ret;exact⟨rfl,nq,rfl⟩
theorem qF(c b:ByteArray):(c.toList==b.toList)=decide (c=b):=by rw[aZ,beq_iff_eq,du,eO,eO];exact⟨λa=>fP (Array.toList_inj.1 a),λa=>by rw[a]⟩
theorem pi(b r:List Nat):b.isPrefixOf r=decide (b.length<=r.length/\r.take b.length=b):=by
 rw[aZ,fF,du];constructor
 ·intro a;exact⟨a.length_le,(List.prefix_iff_eq_take.1 a).symm⟩
 ·rintro⟨_,a⟩;exact List.prefix_iff_eq_take.2 a.symm
theorem z_{e b:List Nat}(k:∀a∈e,a<256)(l:∀a∈b,a<256)(i:gC e=gC b):e=b:=by
 have j:(e.map UInt8.ofNat)=(b.map UInt8.ofNat):=by unfold gC at i;simpa using i
 have h:∀c:List Nat,(∀a∈c,a<256)->(c.map UInt8.ofNat).map UInt8.toNat=c:=λc m=>by rw[dZ];have:c.map (UInt8.toNat ∘ UInt8.ofNat)=c.map id:=List.map_congr_left (λa n=>by simp[ew (m a n)]);simpa using this
 rw[<-h e k,<-h b l,j]
theorem Sc.bytes(a:Sc B bs ao cap data d f g w r):∀e∈r,e<256:=by intro e c;rw[<-a.suf]at c;have h:=cW c;obtain⟨i,b,rfl⟩:=cA h;have:=a.byt i b;simpa[Go.Proofs.YtgkljcmjnphpeaaGreatDoor.nth,b]using this
theorem zR(b:ByteArray):∀c∈bl b,c<256:=by intro c e;obtain⟨h,a,rfl⟩:=cA e;have:=tP b h (by rw[<-nM];exact a);simpa[nth,a]using this
theorem Sc.str(c:Sc B bs ao cap data d f g w r)(n i:Nat)(s:0<n)(t:n<=r.length){b h:Nat}(o:ao=some ⟨b,h,none⟩)(e:Nat) :
  (convert 23 9 (.slice (some ⟨b,h+(data.length-r.length),none⟩) n i)).run Tryz.prog (w.drewN e)=.ok (.string (gC (r.take n))) (w.drewN e):=by
 have k:(r.take n).length=n:=by rw[ax];omega
 have:=zo (w:=w.drewN e) ⟨b,h+(data.length-r.length),none⟩ i (r.take n) (λa j=>by
  rw[k]at j;obtain⟨p,u,e1,e2,l⟩:=c.dat (data.length-r.length+a) (by have:=c.le;omega);rw[o]at e1;cases e1;have m:Go.Proofs.YtgkljcmjnphpeaaGreatDoor.nth (r.take n) a=Go.Proofs.YtgkljcmjnphpeaaGreatDoor.nth data (data.length-r.length+a):=by rw[<-c.nthOf a (by omega)];unfold Go.Proofs.YtgkljcmjnphpeaaGreatDoor.nth;rw[bI,bI,cF j]
  rw[m,ap,cL];exact l)
 rw[k]at this;exact this
theorem Ct(e:Sc B bs ao cap data d f g w r)(a:ByteArray)(p:0<a.size)(M:a.size<=1000000) :
  Calls Tryz.prog 138 #[.pointer (some ⟨bs,0,none⟩),.string a] w λi w'=>i=.returned (.bool ((bl a).isPrefixOf r))/\∃m,w'=w.drewN m:=by
 have h:=gv e;have y:=e.c0;have z:=e.c1;have H:=e.le;have J:=e.len;obtain⟨I,F⟩:=e.lc;clear e;by_cases l:a.size<=r.length
 ·have v:decide ((a.size:Int)<=(r.length:Int))=true:=by simp;omega
  obtain⟨k,j,rfl,_⟩:∃k j,ao=some ⟨k,j,none⟩/\k<B:=by obtain⟨b,j,e1,e2,_⟩:=h.o.dat 0 (by omega);exact⟨b,j,e1,e2⟩
  have G:=λm=>h.o.str a.size (cap-(data.length-r.length)) p l rfl m;have o:Hid (decide (gC (r.take a.size)=a)=(bl a).isPrefixOf r):=by
   unfold Hid;rw[pi,dN,nM];constructor
   ·intro i;exact⟨l,z_ (λn u=>h.o.bytes n (cK u)) (zR a) (i.trans (xG a).symm)⟩
   ·rintro⟨_,i⟩;rw[i,xG]
  generalize s:gC (r.take a.size)=x at *;clear s;have L:(data.length-r.length)+a.size<=data.length:=by omega
  have K:data.length-r.length<=data.length:=by omega
  generalize data.length-r.length=c at *;have N:IntKind.i64.wrap ((c:Int)+(a.size:Int))=((c+a.size:Nat):Int):=by rw[bP];omega
  have A:(0:Int)<=(c:Int)+(a.size:Int):=by omega
  have C:(c:Int)+(a.size:Int)<=(cap:Int):=by omega
  have D:((c:Int)+(a.size:Int)).toNat=c+a.size:=by omega
  have E:¬ cap=c:=by omega
  go_enter Tryz.func138,Tryz.ntmps138;go_wp2_with fail;go_quiet ((go_at_call 190;exact fD (vY (h.o.drewN _))));go_wp2;go_ret;exact⟨by rw[<-o.o,<-qF];rfl,nq,rfl⟩
 ·have v:decide ((a.size:Int)<=(r.length:Int))=false:=by simp;omega
  have t:(bl a).isPrefixOf r=false:=by rw[pi,bG,nM];exact λn=>l n.1
  rw[t];generalize data.length-r.length=c at *;go_enter Tryz.func138,Tryz.ntmps138;go_wp2_with fail;go_quiet ((go_at_call 190;exact fD (vY (h.o.drewN _))));go_wp2;go_ret;exact⟨rfl,nq,rfl⟩
theorem takes_none{a r:List Nat}(b:a.isPrefixOf r=false):gH a r=none:=by unfold gH;rw[b];rfl
theorem takes_some{a r:List Nat}(b:a.isPrefixOf r=true):gH a r=some (r.drop a.length):=by unfold gH;rw[b];rfl
def Aj(B bs:Nat)(ao:Option Addr)(cap:Nat)(data:List Nat)(d f g:Value)(w:World)(r:List Nat)(a:Option (List Nat))(b:Ending)(w':World):Prop:=
 b=.returned (.bool a.isSome)/\Sc B bs ao cap data d f g w' (a.getD r)/\gQ bs w w'
theorem tY(e:Sc B bs ao cap data d f g w r)(a:ByteArray)(m:0<a.size)(n:a.size<=1000000) :
  Calls Tryz.prog 136 #[.pointer (some ⟨bs,0,none⟩),.string a] w (Aj B bs ao cap data d f g w r (gH (bl a) r)):=by
 have h:=gv e;have u:=e.le;have v:=e.len;have i:=gv (Ct e a m n);clear e;cases c:(bl a).isPrefixOf r
 ·rw[c]at i;rw[takes_none c];go_enter Tryz.func136,Tryz.ntmps136;go_wp2_with fail;refine i.o.mono ?_;rintro l p ⟨rfl,b,rfl⟩;go_wp2;go_ret;exact⟨rfl,h.o.drewN b,(gQ.refl _ _).drewN b⟩
 ·rw[c]at i;rw[takes_some c];have j:=(fF.1 c).length_le;rw[nM]at j;have k:Hid (∀b,Sc B bs ao cap data d f g ((w.drewN b).setCell ⟨bs,1,none⟩ (.int .i64 (data.length-r.length+a.size:Nat))) (r.drop (bl a).length)):=λb=>(h.o.drewN b).set _ a.size (by rw[nM]) j _ rfl
  have s:=h.o.c1;have t:=h.o.fz 1;have x:(data.length-r.length)+a.size<=data.length:=by omega
  clear c;generalize data.length-r.length=y at *;go_enter Tryz.func136,Tryz.ntmps136;go_wp2_with fail;refine i.o.mono ?_;rintro l p ⟨rfl,b,rfl⟩;go_wp2;go_ret;exact⟨rfl,k.o b,((gQ.refl _ _).drewN b).setCell _ _⟩
theorem oq(w:World):Calls Tryz.prog 99 #[.bool true] w λa w'=>a=.returned (.tuple #[])/\w'=w:=by
 go_enter Tryz.func99,Tryz.ntmps99;go_wp2
 go_end0
 exact⟨rfl,rfl⟩
theorem sn(w:World):Calls Tryz.prog 99 #[.bool false] w λa w'=>a=gU 4/\w'=w:=by unfold gU;go_enter Tryz.func99,Tryz.ntmps99;go_wp2;exact⟨rfl,rfl,rfl⟩
end
section
variable{B f:Nat}{g:Option Addr}{d:List Nat}{w:World}{p:Nat}
theorem Le(q:nA w B g d)(K:d.length<=f)(L:f<=9223372036854775807)(N:p<=d.length) :
  Calls Tryz.prog 188 #[.slice g d.length f,.int .i64 p] w λj h=>j=.returned (.int .i64 (nt d p:Nat))/\h=w:=by
 have n:=gv q;clear q;go_enter Tryz.func188,Tryz.ntmps188;go_wp2;refine wp_scope_jumps 0 (λk h=>h=w/\∃(a:Nat) (r s t u v x y z A C D E F G:Value),k={ tmps:=#[.slice g d.length f,.int .i64 a,undef,undef,.int .i64 0,r,s,t,u,v,x,y,z,A,C,D,E,F,G],defers:=[] }/\a<=d.length/\Hid (nt d a=nt d p)) (λk _=>d.length-(intOf (k.tmps.getD 1 undef)).toNat) rfl ?_ ?_
 ·by_cases i:p<d.length
  ·have m:(p:Int)<d.length:=by omega
   obtain⟨H,J,rfl,_,I⟩:=n.o p i;cases e:lM (nth d p)
   ·have b:nt d p=p:=Aa (λc=>by rw[e]at c;cases c.2);go_wp2
    go_step3
    go_wp2_with (go_at_call 250;refine(Bw _ _).mono ?_;rintro j h ⟨rfl,rfl⟩;rw[e]);simp only[Exit.jump];go_ret;exact⟨by rw[b];rfl,rfl⟩
   ·have b:=zi i e;go_wp2
    go_step3
    go_wp2_with (go_at_call 250;refine(Bw _ _).mono ?_;rintro j h ⟨rfl,rfl⟩;rw[e])
    go_step3
    refine⟨rfl,rfl,p+1,_,_,_,_,_,_,_,_,_,_,_,_,_,_,rfl,by omega,b.symm⟩
  ·have m:¬ (p:Int)<d.length:=by omega
   have b:nt d p=p:=Aa (λc=>i c.1);go_wp2
   go_step3
   go_wp2;simp only[Exit.jump];go_ret;exact⟨by rw[b];rfl,rfl⟩
 ·rintro k h ⟨rfl,a,r,s,t,u,v,x,y,z,A,C,D,E,F,G,rfl,M,l⟩;by_cases i:a<d.length
  ·have m:(a:Int)<d.length:=by omega
   obtain⟨H,J,rfl,_,I⟩:=n.o a i;cases e:lM (nth d a)
   ·have b:nt d a=a:=Aa (λc=>by rw[e]at c;cases c.2);go_wp2_with (go_at_call 250;refine(Bw _ _).mono ?_;rintro j h ⟨rfl,rfl⟩;rw[e]);simp only[Exit.jump];go_ret;exact⟨by rw[<-l.o,b];rfl,rfl⟩
   ·have b:=zi i e;go_wp2_with (go_at_call 250;refine(Bw _ _).mono ?_;rintro j h ⟨rfl,rfl⟩;rw[e])
    go_step3
    refine⟨rfl,⟨rfl,a+1,_,_,_,_,_,_,_,_,_,_,_,_,_,_,rfl,by omega,b.symm.trans l.o⟩,?_⟩;simp[intOf];omega
  ·have m:¬ (a:Int)<d.length:=by omega
   have b:nt d a=a:=Aa (λc=>i c.1);go_wp2;simp only[Exit.jump];go_ret;exact⟨by rw[<-l.o,b];rfl,rfl⟩
theorem Ax{d:List Nat}{p:Nat}(a:p<d.length):d.drop p=nth d p::d.drop (p+1):=by rw[bU a];simp[nth,a]
theorem Fg(d:List Nat):∀(k p:Nat),d.length-p=k->d.drop (nt d p)=(d.drop p).dropWhile lM
 |0,p,e=>by rw[Aa (λa=>by omega),dt (by omega)];rfl
 |k+1,p,e=>by
  have b:p<d.length:=by omega
  rw[Ax b,cE];cases c:lM (nth d p);·rw[Aa (λa=>by rw[c]at a;cases a.2),Ax b];rfl
  ·rw[zi b c,Fg d k (p+1) (by omega)];rfl
def lA(d:List Nat)(p:Nat):Nat:=d.length-(g_ (d.drop p)).length
theorem Lo{a d:List Nat}(b:a <:+ d):d.drop (d.length-a.length)=a:=by obtain⟨c,rfl⟩:=b;rw[ab,eZ,List.drop_left]
theorem DU:∀r:List Nat,g_ r <:+ r
 | []=>eT _
 |b::r=>by
  simp only[g_];split;·exact eT _
  ·exact(DU r).trans (fH b r)
theorem FSx{d:List Nat}{p:Nat}(a:p<d.length)(b:nth d p=10\/nth d p=13):lA d p=p:=by unfold lA;rw[Ax a,g_,aA b,<-Ax a,aU];omega
theorem Jh{d:List Nat}{p:Nat}(b:¬ p<d.length)(a:p<=d.length):lA d p=p:=by unfold lA;rw[dt (by omega)];simp[g_];omega
theorem Ji{d:List Nat}{p:Nat}(b:p<d.length)(a:¬ (nth d p=10\/nth d p=13)):lA d (p+1)=lA d p:=by unfold lA;rw[Ax b,g_,au a]
theorem Jl(q:nA w B g d)(A:d.length<=f)(C:f<=9223372036854775807)(x:p<=d.length) :
  Calls Tryz.prog 189 #[.slice g d.length f,.int .i64 p] w λt y=>t=.returned (.int .i64 (lA d p:Nat))/\y=w:=by
 have u:=gv q;clear q;generalize m:lA d p=r at *;have l:=gv m;clear m;go_enter Tryz.func189,Tryz.ntmps189;go_wp2;go_loopw [1] (λj wr=>∃k:Nat,k<=d.length/\j=.int .i64 k/\Hid (lA d k=r)/\wr=w) (λj _=>d.length-(intOf j).toNat)
 case atStart=>exact⟨p,x,rfl,l,rfl⟩
 clear l
 case round =>
  obtain⟨k,v,rfl,a,rfl⟩:=hrel;by_cases e:k<d.length
  ·have s:(k:Int)<d.length:=by omega
   obtain⟨D,G,rfl,_,n⟩:=u.o k e;by_cases c:nth d k=10
   ·have i:=FSx e (Or.inl c);have b:=gv (i.symm.trans a.o);rw[c]at n;clear c i a;go_wp2;go_ret;exact⟨by rw[<-b.o];rfl,rfl⟩
   ·by_cases h:nth d k=13
    ·have i:=FSx e (Or.inr h);have b:=gv (i.symm.trans a.o);rw[h]at n;clear c h i a;go_wp2;go_ret;exact⟨by rw[<-b.o];rfl,rfl⟩
    ·have b:=gv ((Ji e (λz=>z.elim c h)).trans a.o);have E:((nth d k:Int) != 10)=true:=by simp;omega
     have F:((nth d k:Int) != 13)=true:=by simp;omega
     generalize nth d k=H at *;clear c h a;go_wp2;go_roundw
     case rel=>exact⟨k+1,by omega,by go_num,b,trivial⟩
     case measure=>simp[intOf];omega
  ·have s:¬ (k:Int)<d.length:=by omega
   have b:=gv ((Jh e v).symm.trans a.o);clear a;go_wp2;go_ret;exact⟨by rw[<-b.o];rfl,rfl⟩
end
section
variable{B f g:Nat}{i:Option Addr}{c:List Nat}{j l n:Value}{w w':World}{r q:List Nat}
def posS(f:Nat)(w:World):Nat:=(intOf ((w.cell? ⟨f,1,none⟩).getD undef)).toNat
theorem Sc.posS(a:Sc B f i g c j l n w r):posS f w=c.length-r.length:=by unfold Go.Proofs.YtgkljcmjnphpeaaGreatDoor.posS;rw[a.c1];simp[intOf]
theorem bo(a:UInt8):bl { data:=#[a] }=[a.toNat]:=rfl
theorem FH{r:List Nat}(a:([37]:List Nat).isPrefixOf r=true):∃b,r=37::b:=by
 cases r with
 |nil=>cases a
 |cons d b=>simp[List.isPrefixOf]at a;exact⟨b,by rw[a]⟩
theorem FI{r:List Nat}(h:([37]:List Nat).isPrefixOf r=false)(k:∀b a,r=b::a->lM b=false):gG r=r:=by
 cases r with
 |nil=>rfl
 |cons d a=>refine jz (k d a rfl) (λe=>?_);subst e;simp[List.isPrefixOf]at h
theorem Av{p:Nat->Bool}:∀(r:List Nat) (b:Nat) (d:List Nat),r.dropWhile p=b::d->p b=false
 | [],b,d,a=>by cases a
 |h::r,b,d,a=>by
  rw[cE]at a;cases e:p h;·rw[e]at a;cases a;exact e
  ·rw[e]at a;exact Av r b d a
theorem Sc.white(b:Sc B f i g c j l n w r):Calls Tryz.prog 188 #[.slice i c.length g,.int .i64 (c.length-r.length:Nat)] w.drew λa w'=>a=.returned (.int .i64 (c.length-(r.dropWhile lM).length:Nat))/\w'=w.drew:=by have e:=b.le;have k:=Le (w:=w.drew) (B:=B) (p:=c.length-r.length) (b.dat.other (λ_ _=>rfl)) b.lc.1 b.lc.2 (by omega);refine k.mono ?_;rintro a w' ⟨rfl,rfl⟩;have a:=Fg c _ (c.length-r.length) rfl;rw[b.suf]at a;rw[<-a,aU];have:=KU (d:=c) (p:=c.length-r.length) (by omega);rw[show c.length-(c.length-nt c (c.length-r.length))=nt c (c.length-r.length)by omega];exact⟨rfl,rfl⟩
theorem Sc.line(a:Sc B f i g c j l n w r):Calls Tryz.prog 189 #[.slice i c.length g,.int .i64 (c.length-r.length:Nat)] w.drew λb w'=>b=.returned (.int .i64 (c.length-(g_ r).length:Nat))/\w'=w.drew:=by have d:=a.le;have k:=Jl (w:=w.drew) (B:=B) (p:=c.length-r.length) (a.dat.other (λ_ _=>rfl)) a.lc.1 a.lc.2 (by omega);refine k.mono ?_;rintro b w' ⟨rfl,rfl⟩;unfold lA;rw[a.suf];exact⟨rfl,rfl⟩
theorem Sc.drew(a:Sc B f i g c j l n w r):Sc B f i g c j l n w.drew r:=a.drewN 1
theorem Sc.go(a:Sc B f i g c j l n w r)(b:q <:+ r):Sc B f i g c j l n (w.setCell ⟨f,1,none⟩ (.int .i64 (c.length-q.length:Nat))) q:=by have e:=a.le;have h:=b.length_le;have:=a.at_ (c.length-q.length) (by omega);have d:c.drop (c.length-q.length)=q:=Lo (b.trans (by rw[<-a.suf];exact List.drop_suffix _ _));rw[d]at this;exact this
theorem Cu(U:Sc B f i g c j l n w r) :
  Calls Tryz.prog 137 #[.pointer (some ⟨f,0,none⟩)] w λt w'=>t=.returned (.tuple #[])/\Sc B f i g c j l n w' (gG r)/\gQ f w w':=by
 have z:=gv U;have hn:=U.len;clear U;generalize C:gG r=G at *;have HR:=gv C;clear C;go_enter Tryz.func137,Tryz.ntmps137;go_wp2;refine wp_scope_jumps 0 (λa' w'=>∃(q:List Nat) (y2 y3 y4 y5 y6 y7 y8 y9 ao a0 a1 a2 a3 a4 a5 a6 a7 a8 a9 ba bb bc bd bf bi bm:Value),a'={ tmps:=#[.pointer (some ⟨f,0,none⟩),undef,y2,y3,y4,y5,y6,y7,y8,y9,ao,a0,a1,a2,a3,a4,a5,a6,a7,a8,a9,ba,bb,bc,bd,bf,bi,bm],defers:=[] }/\Hid (Sc B f i g c j l n w' q)/\Hid (gG q=G)/\Hid (gQ f w w')) (λ_ w'=>c.length-posS f w') rfl ?_ ?_
 ·have Q:=z.o.c0;have H:=z.o.c1;have S:=z.o.fz 1;have bt:=z.o.le;have x:=gv z.o.white;have k:=gv ((z.o.go (cT lM)).drew);have P:Hid (∀b a,r.dropWhile lM=b::a->lM b=false):=Av r;have F:=gv (om r);have V:=lx (p:=lM) r;have s:Hid (gQ f w (w.setCell ⟨f,1,none⟩ (.int .i64 (c.length-(r.dropWhile lM).length:Nat))).drew):=((gQ.refl f w).setCell _ _).drewN 1;generalize r.dropWhile lM=p at *;have bw:c.length-p.length<=200000:=by omega
  have HP:=gv (show c.length-r.length<=c.length-p.length by omega);generalize J:c.length-r.length=ac at H x;generalize K:c.length-p.length=p1 at x k s;have br:=gv K;have bq:=gv J;clear K J;go_wp2_with fail
  go_step3
  go_wp2_with fail;go_region_with (go_at_call 188;refine x.o.mono ?_;rintro t w' ⟨rfl,rfl⟩);all_goals (
   clear Q H S;generalize Y:(w.setCell ⟨f,1,none⟩ (.int .i64 (p1:Nat))).drew=w1 at *;clear Y;have e:=gv (Ct k.o { data:=#[37] } (by decide) (by decide));rw[bo]at e;cases u:([37]:List Nat).isPrefixOf p
   ·have N:=gv (FI u P.o);rw[show(UInt8.toNat 37)=37 from rfl,u]at e;go_wp2_with fail;refine e.o.mono ?_;rintro t y ⟨rfl,h,rfl⟩;go_wp2;simp only[Exit.jump]
    go_end0
    have C:p=G:=by rw[<-HR.o,F.o,N.o]
    refine⟨rfl,?_,s.o.drewN h⟩;rw[<-C];exact k.o.drewN h
   ·obtain⟨a,rfl⟩:=FH u;rw[show(UInt8.toNat 37)=37 from rfl,u]at e;go_wp2_with fail;refine e.o.mono ?_;rintro t y ⟨rfl,h,rfl⟩;have d:=gv (k.o.drewN h);have D:=gv (s.o.drewN h);clear k s e;generalize Z:w1.drewN h=y at *;clear Z;have R:=d.o.c0;have I:=d.o.c1;have T:=d.o.fz 1;have m:=gv d.o.line;have L:g_ (37::a)=g_ a:=by simp[g_]
    have A:=gv ((d.o.go (q:=g_ a) (by rw[<-L];exact DU _)).drew);have bs:=ng a;have E:Hid (gQ f w (y.setCell ⟨f,1,none⟩ (.int .i64 (c.length-(g_ a).length:Nat))).drew):=(D.o.setCell _ _).drewN 1;rw[L]at m;have O:Hid (gG (g_ a)=G):=by rw[<-HR.o,F.o,oV];exact rfl
    have W:=d.o.le;simp only[ag]at W V;have ad:=gv (show c.length-(c.length-(g_ a).length)<c.length-(c.length-r.length)by omega);generalize g_ a=M at *;generalize X:c.length-(37::a).length=p2 at I m;have bx:c.length-M.length<=200000:=by omega
    generalize bv:c.length-M.length=p3 at m A E;clear X;go_wp2_with fail;go_region_with (go_at_call 189;refine m.o.mono ?_;rintro t w' ⟨rfl,rfl⟩);all_goals (
     clear R I T m d D;go_wp2
     go_step3
     exact⟨rfl,_,_,_,_,_,_,_,_,_,_,_,_,_,_,_,_,_,_,_,_,_,_,_,_,_,_,_,rfl,A,O,E⟩))
 ·rintro a' w0 ⟨q,y2,y3,y4,y5,y6,y7,y8,y9,ao,a0,a1,a2,a3,a4,a5,a6,a7,a8,a9,ba,bb,bc,bd,bf,bi,bm,rfl,v,al,bn⟩;have Q:=v.o.c0;have H:=v.o.c1;have S:=v.o.fz 1;have bt:=v.o.le;have x:=gv v.o.white;have k:=gv ((v.o.go (cT lM)).drew);have P:Hid (∀b a,q.dropWhile lM=b::a->lM b=false):=Av q;have F:=gv (om q);have V:=lx (p:=lM) q;have s:Hid (gQ f w (w0.setCell ⟨f,1,none⟩ (.int .i64 (c.length-(q.dropWhile lM).length:Nat))).drew):=(bn.o.setCell _ _).drewN 1;generalize q.dropWhile lM=p at *;have bw:c.length-p.length<=200000:=by omega
  have HP:=gv (show c.length-q.length<=c.length-p.length by omega);generalize J:c.length-q.length=ac at H x;generalize K:c.length-p.length=p1 at x k s;have br:=gv K;have bq:=gv J;clear K J;go_wp2_with fail;go_region_with (go_at_call 188;refine x.o.mono ?_;rintro t w' ⟨rfl,rfl⟩);all_goals (
   clear Q H S;generalize Y:(w0.setCell ⟨f,1,none⟩ (.int .i64 (p1:Nat))).drew=w1 at *;clear Y;have e:=gv (Ct k.o { data:=#[37] } (by decide) (by decide));rw[bo]at e;cases u:([37]:List Nat).isPrefixOf p
   ·have N:=gv (FI u P.o);rw[show(UInt8.toNat 37)=37 from rfl,u]at e;go_wp2_with fail;refine e.o.mono ?_;rintro t y ⟨rfl,h,rfl⟩;go_wp2;simp only[Exit.jump]
    go_end0
    have C:p=G:=by rw[<-al.o,F.o,N.o]
    refine⟨rfl,?_,s.o.drewN h⟩;rw[<-C];exact k.o.drewN h
   ·obtain⟨a,rfl⟩:=FH u;rw[show(UInt8.toNat 37)=37 from rfl,u]at e;go_wp2_with fail;refine e.o.mono ?_;rintro t y ⟨rfl,h,rfl⟩;have d:=gv (k.o.drewN h);have D:=gv (s.o.drewN h);clear k s e;generalize Z:w1.drewN h=y at *;clear Z;have R:=d.o.c0;have I:=d.o.c1;have T:=d.o.fz 1;have m:=gv d.o.line;have L:g_ (37::a)=g_ a:=by simp[g_]
    have A:=gv ((d.o.go (q:=g_ a) (by rw[<-L];exact DU _)).drew);have bs:=ng a;have E:Hid (gQ f w (y.setCell ⟨f,1,none⟩ (.int .i64 (c.length-(g_ a).length:Nat))).drew):=(D.o.setCell _ _).drewN 1;rw[L]at m;have O:Hid (gG (g_ a)=G):=by rw[<-al.o,F.o,oV];exact rfl
    have W:=d.o.le;simp only[ag]at W V;have ad:=gv (show c.length-(c.length-(g_ a).length)<c.length-(c.length-q.length)by omega);generalize g_ a=M at *;generalize X:c.length-(37::a).length=p2 at I m;have bx:c.length-M.length<=200000:=by omega
    generalize bv:c.length-M.length=p3 at m A E;clear X;go_wp2_with fail;go_region_with (go_at_call 189;refine m.o.mono ?_;rintro t w' ⟨rfl,rfl⟩);all_goals (
     clear R I T m d D;go_wp2
     go_step3
     refine⟨rfl,⟨_,_,_,_,_,_,_,_,_,_,_,_,_,_,_,_,_,_,_,_,_,_,_,_,_,_,_,rfl,A,O,E⟩,?_⟩;rw[A.o.posS,v.o.posS];exact ad.o))
end
end Go.Proofs.YtgkljcmjnphpeaaGreatDoor
