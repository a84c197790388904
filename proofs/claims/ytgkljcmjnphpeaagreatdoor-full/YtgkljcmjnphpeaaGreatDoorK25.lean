import Derived.Test.YtgkljcmjnphpeaaGreatDoorK23
set_option linter.unusedVariables false
set_option linter.unusedSimpArgs false
set_option maxHeartbeats 1000000
namespace Go.Proofs.YtgkljcmjnphpeaaGreatDoor
open Go.RowKit
namespace Fo
def NP(r:List Nat):Prop:=∀ b t,r=b::t→pB b=false
theorem NP.cons{b:Nat}{t:List Nat}(h:pB b=false):NP (b::t):=fun b' t' e=>by cases e;exact h
def Plain(s:List Nat):Prop:=s≠[]∧∀ b∈s,pB b=true
theorem tWn{r:List Nat}(hr:NP r):r.takeWhile pB=[]∧r.dropWhile pB=r:=by
 cases r with
 |nil=>exact⟨rfl,rfl⟩
 |cons b t=>simp[List.takeWhile,List.dropWhile,hr b t rfl]
theorem tWp:∀{s r:List Nat},(∀ b∈s,pB b=true)→NP r→(s++r).takeWhile pB=s∧(s++r).dropWhile pB=r
 | [],r,_,hr=>tWn hr
 |b::s,r,hs,hr=>by
  have ih:=tWp (s:=s) (r:=r) (fun x hx=>hs x (List.mem_cons_of_mem _ hx)) hr
  have hb:=hs b (List.mem_cons_self ..)
  simp[List.takeWhile,List.dropWhile,hb,ih.1,ih.2]
theorem pw{b:Nat}(h:pB b=true):whB b=false∧markB b=false:=by
 unfold pB at h
 simpa using h
theorem pn{b c:Nat}(h:pB b=true)(hc:pB c=false):b≠c:=by
 rintro rfl
 rw[h]at hc;cases hc
theorem skp{b:Nat}{t:List Nat}(h:pB b=true):skip (b::t)=b::t:=skip_stop (pw h).1 (pn h rfl)
theorem sow{b:Nat}{t:List Nat}(h:whB b=true):skip (b::t)=skip t:=by
 show skipC false (b::t)=_
 rw[skipC,if_pos h];rfl
theorem tWs(s r:List Nat):takesWord s (skip r)=takesWord s r:=by unfold takesWord;rw[wOs,wRs]
theorem tWw{b:Nat}{s t:List Nat}(h:whB b=true):takesWord s (b::t)=takesWord s t:=by rw[←tWs,sow h,tWs]
theorem woo{s r:List Nat}(hs:Plain s)(hr:NP r):wordOf (s++r)=s∧wordRest (s++r)=r:=by
 obtain⟨h1,h2⟩:=hs
 obtain⟨b,s,rfl⟩:=List.exists_cons_of_ne_nil h1
 unfold wordOf wordRest
 rw[List.cons_append,skp (h2 b (List.mem_cons_self ..)),←List.cons_append]
 exact tWp h2 hr
theorem taWw{s r:List Nat}(hs:Plain s)(hr:NP r):takesWord s (s++r)=some r:=by
 unfold takesWord
 rw[(woo hs hr).1,(woo hs hr).2,if_pos rfl]
theorem tWo{s s' r:List Nat}(hs:Plain s)(hr:NP r)(h:s≠s'):takesWord s' (s++r)=none:=by
 unfold takesWord
 rw[(woo hs hr).1,if_neg h]
theorem tWm{b:Nat}{s t:List Nat}(h:pB b=false)(hw:whB b=false)(h37:b≠37)(hs:s≠[]):takesWord s (b::t)=none:=by
 unfold takesWord wordOf
 rw[skip_stop hw h37,(tWn (NP.cons h)).1,if_neg (fun e=>hs e.symm)]
theorem ta(s r:List Nat):takes s (s++r)=some r:=by
 unfold takes
 rw[if_pos (by simp),List.drop_left]
theorem tan{b c:Nat}{s t:List Nat}(h:c≠b):takes (c::s) (b::t)=none:=by
 unfold takes
 rw[if_neg]
 simp[List.isPrefixOf,h]
structure Gap(G:List Nat):Prop where
 skip:∀ r,Fo.skip (G++r)=Fo.skip r
 np:∀ r,NP r→NP (G++r)
theorem Gap.white{b:Nat}(h:whB b=true):Gap [b]:=⟨fun r=>sow h,fun r _=>NP.cons (by unfold pB;rw[h];rfl)⟩
theorem vas{k:Nat}(r:List Nat):value (k+1) (skip r)=value (k+1) r:=by
 unfold value
 rw[skip_skip,worded_skip]
theorem Gap.value{G:List Nat}(h:Gap G){k:Nat}(r:List Nat):Fo.value (k+1) (G++r)=Fo.value (k+1) r:=by rw[←vas,h.skip,vas]
theorem plm{b:Nat}(h:pB b=true):b≠91∧b≠60∧b≠40∧b≠47∧b≠93∧b≠62∧b≠37:=
 ⟨pn h rfl,pn h rfl,pn h rfl,pn h rfl,pn h rfl,pn h rfl,pn h rfl⟩
theorem vw{k:Nat}{s r:List Nat}(hs:Plain s):value (k+1) (s++r)=worded (VT k) (s++r):=by
 obtain⟨h1,h2⟩:=hs
 obtain⟨b,s,rfl⟩:=List.exists_cons_of_ne_nil h1
 have hb:=h2 b (List.mem_cons_self ..)
 obtain⟨m1,m2,m3,m4,_⟩:=plm hb
 unfold value
 rw[List.cons_append,skp hb,tan m1.symm,tan m2.symm,tan m2.symm,tan m3.symm,tan m4.symm]
def dig(n:Nat):List Nat:=(Lib.decDigits n).map UInt8.toNat
theorem u8_48{n:Nat}(h:n<10):(UInt8.ofNat (48+n)).toNat=48+n:=by
 rw[UInt8.toNat_ofNat'];omega
theorem dis{n:Nat}(h:n<10):dig n=[48+n]:=by
 unfold dig
 rw[Lib.decDigits,dif_pos h]
 simp only[List.map_cons,List.map_nil,u8_48 h]
theorem dib{n:Nat}(h:¬ n<10):dig n=dig (n/10)++[48+n%10]:=by
 unfold dig
 rw[Lib.decDigits,dif_neg h,List.map_append]
 simp only[List.map_cons,List.map_nil,u8_48 (show n%10<10 by omega)]
theorem di(n:Nat):dig n≠[]∧∀ b∈dig n,48≤b∧b≤57:=by
 induction n using Nat.strongRecOn with
 |_ n ih =>
  by_cases h:n<10
  ·rw[dis h];exact⟨by simp,fun b hb=>by simp at hb;omega⟩
  ·rw[dib h]
   refine⟨by simp,fun b hb=>?_⟩
   rcases List.mem_append.1 hb with hb | hb
   ·exact(ih (n/10) (by omega)).2 b hb
   ·simp at hb;omega
theorem pd{b:Nat}(h:48≤b∧b≤57):pB b=true:=by
 have:∀ b:Fin 10,pB (48+b.val)=true:=by decide
 have:=this ⟨b-48,by omega⟩
 rwa [show 48+(b-48)=b by omega]at this
theorem dip(n:Nat):Plain (dig n):=⟨(di n).1,fun b hb=>pd ((di n).2 b hb)⟩
theorem nOa(l:List Nat)(b:Nat):numOf (l++[b])=10*numOf l+(b-48):=by unfold numOf;rw[List.foldl_append];rfl
theorem nOd(n:Nat):numOf (dig n)=n:=by
 induction n using Nat.strongRecOn with
 |_ n ih =>
  by_cases h:n<10
  ·rw[dis h];simp[numOf]
  ·rw[dib h,nOa,ih (n/10) (by omega)];omega
theorem cSd{l:List Nat}(h:∀ b∈l,48≤b∧b≤57):cutSign l=([],l):=by
 cases l with
 |nil=>rfl
 |cons b t =>
  have:=h b (List.mem_cons_self ..)
  show(if b=43∨b=45 then([b],t)else(([]:List Nat),b::t))=_
  rw[if_neg (by omega)]
theorem atd{l:List Nat}(h0:l≠[])(h:∀ b∈l,48≤b∧b≤57):atoi l=some (numOf l:Int):=by
 unfold atoi
 rw[cSd h]
 rw[if_pos ⟨h0,by rw[List.all_eq_true];intro b hb;have:=h b hb;simp[isDig];omega⟩,if_neg (by simp)]
theorem dig_len:∀(k n:Nat),n<10^(k+1)→(dig n).length≤k+1
 |0,n,h=>by rw[dis (by simpa using h)];exact Nat.le_refl _
 |k+1,n,h=>by
  have ih:=dig_len k (n/10) (by rw[Nat.div_lt_iff_lt_mul (by decide)];rw[Nat.pow_succ]at h;exact h)
  by_cases h9:n<10
  ·rw[dis h9];simp
  ·rw[dib h9,List.length_append,List.length_singleton];omega
theorem whd{n:Nat}(h:n<10^10):whole (dig n)=some (n:Int):=by
 unfold whole
 rw[cSd (di n).2,if_pos ⟨List.length_pos_iff.2 (di n).1,dig_len 9 n h⟩,atd (di n).1 (di n).2,nOd]
end Fo
section
variable{w w':World}
namespace Fo
def num:Nat→Nat→List Nat
 |_,0=>[]
 |n,s+1=>num (n/10) s++[48+n%10]
end Fo
namespace Fo
def pln:Nat→Nat→List Nat
 |0,n=>num n 1
 |f+1,n=>if n<10 then num n 1 else pln f (n/10)++num (n%10) 1
end Fo
namespace Fo
def oT(G x:List Nat)(i:Nat):List Nat:=pln 18 (i+1)++([32]++(G++([48]++(G++([32,111,98,106]++(G++([10]++(x++([10]++(G++([101,110,100,111,98,106,10]++G)))))))))))
def atOf(off k:Int)(i n:Nat):Nat:=if(i:Int)=k then((n:Int)+off).toNat else n
def lT(n:Nat):List Nat:=num n 10++[32,48,48,48,48,48,32,110,32,10]
def mG(G:List Nat)(off k:Int):Nat→List (List Nat)→List Nat→List Nat→List Nat × List Nat
 |_,[],s,t=>(s,t)
 |i,x::l,s,t=>mG G off k (i+1) l (s++oT G x i) (t++lT (atOf off k i s.length))
def mH(n:Nat):List Nat:=[120,114,101,102,10,48,32]++(pln 18 (n+1)++[10,48,48,48,48,48,48,48,48,48,48,32,54,53,53,51,53,32,102,13,10])
def mT(G:List Nat)(n at_:Nat):List Nat:=G++([116,114,97,105,108,101,114]++(G++([60,60,47,82,111,111,116,32,49,32]++(G++([48,32,82]++(G++([47,83,105,122,101,32]++(pln 18 (n+1)++([62,62]++(G++([115,116,97,114,116,120,114,101,102,10]++(G++(pln 18 at_++[13,10,37,37,69,79,70])))))))))))))
def mO(n:Nat)(G:List Nat)(z:List Nat × List Nat):List Nat:=z.1++(z.2++mT G n z.1.length)
def made(texts:List (List Nat))(G:List Nat)(off k:Int):List Nat:=mO texts.length G (mG G off k 0 texts ([37,80,68,70,45,49,46,52,10]++G) (mH texts.length))
end Fo
end
namespace Fo
theorem ded(n:Nat):dec n=dig n:=rfl
def objs(G:List Nat):Nat→List (List Nat)→List Nat
 |_,[]=>[]
 |i,x::l=>oT G x i++objs G (i+1) l
def places(G:List Nat):Nat→List (List Nat)→Nat→List Nat
 |_,[],_=>[]
 |i,x::l,p=>p::places G (i+1) l (p+(oT G x i).length)
theorem pL{s:List Nat}(h0:s≠[])(h:s.all pB=true):Plain s:=⟨h0,fun b hb=>by rw[List.all_eq_true]at h;exact h b hb⟩
end Fo
section
namespace Fo
theorem NP.lit{b:Nat}{s r:List Nat}(h:pB b=false):NP ((b::s)++r):=NP.cons h
theorem nap:∀{s r:List Nat},(∀ b∈s,pB b=true∧33≤b∧b≤126∧b≠35)→NP r→name (s++r)=some (s,r)
 | [],r,_,hr=>by
  cases r with
  |nil=>rfl
  |cons b t =>
   show nameS 0 0 (b::t)=_
   rw[nameS,if_pos (hr b t rfl)]
 |b::s,r,hs,hr=>by
  obtain⟨h1,h2,h3,h4⟩:=hs b (List.mem_cons_self ..)
  have ih:nameS 0 0 (s++r)=some (s,r):=nap (fun x hx=>hs x (List.mem_cons_of_mem _ hx)) hr
  show nameS 0 0 (b::(s++r))=_
  rw[nameS,if_neg (by rw[h1];simp),if_neg (by omega),if_neg h4,ih]
  rfl
section
variable{α:Type}{f:List Nat→Option (α × List Nat)}
theorem dg{G:List Nat}(hG:Gap G)(m:Nat)(r:List Nat):dic f (m+1) (G++r)=dic f (m+1) r:=by
 rw[dic,dic,hG.skip]
theorem ds_{m:Nat}{r key q2 q3:List Nat}{v:α}(hn:name r=some (key,q2))(hv:f q2=some (v,q3)):dic f (m+1) (47::r)=(dic f m q3).map fun x=>((key::x.1.1,v::x.1.2),x.2):=by
 rw[dic,skip_stop (by decide) (by decide),tan (by decide)]
 simp only[]
 rw[show takes [47] (47::r)=some r from ta [47] r]
 simp only[]
 rw[hn]
 simp only[]
 rw[hv]
theorem de(m:Nat)(r:List Nat):dic f (m+1) (62::62::r)=some (([],[]),r):=by
 rw[dic,skip_stop (by decide) (by decide),show takes [62,62] (62::62::r)=some r from ta [62,62] r]
end
theorem won{α:Type}{s r:List Nat}{n:Int}(hs:Plain s)(hr:NP r)(hw:whole s=some n):worded α (s++r)=match takesRef r with
  |some q=>some (leafN α 9 n 0 [],q)
  |none=>some (leafN α 2 n 0 [],r):=by
 unfold worded
 rw[(woo hs hr).1,(woo hs hr).2,hw]
 have h1:s≠[110,117,108,108]:=by rintro rfl;cases hw
 have h2:s≠[102,97,108,115,101]:=by rintro rfl;cases hw
 have h3:s≠[116,114,117,101]:=by rintro rfl;cases hw
 rw[if_neg h1,if_neg h2,if_neg h3]
 rfl
theorem vr{k:Nat}{s r q:List Nat}{n:Int}(hs:Plain s)(hr:NP r)(hw:whole s=some n)(h:takesRef r=some q):value (k+1) (s++r)=some (leafN (VT k) 9 n 0 [],q):=by
 rw[vw hs,won hs hr hw,h]
theorem vi{k:Nat}{s r:List Nat}{n:Int}(hs:Plain s)(hr:NP r)(hw:whole s=some n)(h:takesRef r=none):value (k+1) (s++r)=some (leafN (VT k) 2 n 0 [],r):=by
 rw[vw hs,won hs hr hw,h]
end Fo
end
namespace Fo
theorem vd{k m:Nat}{t q:List Nat}{x:List (List Nat) × List (VT k)}(hm:∃ d,t.length=d+m)(h:∀ d,dic (value k) (d+m+1) t=some (x,q)):value (k+1) (60::60::t)=some ((⟨7,0,0,[],x.2,x.1,[]⟩:Node (VT k)),q):=by
 unfold value
 rw[skip_stop (by decide) (by decide),tan (by decide),show takes [60,60] (60::60::t)=some t from ta [60,60] t]
 show(dic (value k) (t.length+1) t).map _=_
 obtain⟨d,hd⟩:=hm
 rw[hd,h d]
 rfl
end Fo
namespace Fo
def Small(l:List Nat):Prop:=∀ x∈l,x<256
theorem Small.lit{l:List Nat}(h:(l.all fun x=>decide (x<256))=true):Small l:=fun x hx=>by rw[List.all_eq_true]at h;simpa using h x hx
theorem Small.app{a b:List Nat}(ha:Small a)(hb:Small b):Small (a++b):=fun x hx=>(List.mem_append.1 hx).elim (ha x) (hb x)
theorem Small.dig(n:Nat):Small (Fo.dig n):=fun x hx=>by have:=(di n).2 x hx;omega
theorem Small.flatMap{β:Type}{f:β→List Nat}{l:List β}(h:∀ z∈l,Small (f z)):Small (l.flatMap f):=fun x hx=>by
 obtain⟨z,hz,hx⟩:=List.mem_flatMap.1 hx
 exact h z hz x hx
end Fo
section
variable{w w':World}
theorem cob(l:List Nat)(hb:∀ x∈l,x<256)(hl:l.length≤1000000)(w:World):∃ cap W',l.length≤cap∧cap≤9223372036854775807∧(convert 9 23 (.string (strN l))).run Tryz.prog w=.ok (.slice (some ⟨w.heap.size,0,none⟩) l.length cap) W'∧Below w.heap.size w W'∧Dat W' W'.heap.size (some ⟨w.heap.size,0,none⟩) l∧w.heap.size<W'.heap.size:=by
 have hr:=run_bytes_of_string (P:= Tryz.prog) w 9 23 5 (strN l) Tryz.underlying9 Tryz.underlying23 Tryz.underlying5
 have h1:=grownCap_ge w (strN l).size 0 5
 have h2:=grownCap_le_maxLen w (strN l).size 0 5 (by rw[stNs];unfold maxLen;omega)
 generalize grownCap w (strN l).size 0 5=cap at *
 rw[stNs]at hr h1
 refine⟨cap,_,h1,h2,hr,(Below.refl _ _).drew.alloc (Nat.le_refl _) _,?_,by simp⟩
 intro i hi
 refine⟨w.heap.size,0,rfl,by simp,?_⟩
 have hnw:(w.drew.alloc (.cells (bytesRow (strN l) cap) 5 ((bytesRow (strN l) cap).size,(bytesRow (strN l) cap).size+1))).heap[w.heap.size]?=some (.cells (bytesRow (strN l) cap) 5 ((bytesRow (strN l) cap).size,(bytesRow (strN l) cap).size+1)):=bln w.drew _
 rw[Nat.zero_add,ceb hnw]
 unfold bytesRow
 rw[Array.getElem?_append_left (by simp[strN];exact hi)]
 simp[strN,nth,List.getElem?_eq_getElem hi]
 have:=hb l[i] (List.getElem_mem hi)
 omega
theorem cd0{B:Nat}{ao:Option Addr}{xs:List Nat}{cap:Nat}(h:Dat w B ao xs):(convert 23 9 (.slice ao xs.length cap)).run Tryz.prog w=.ok (.string (strN xs)) w:=by
 rcases Nat.eq_zero_or_pos xs.length with h0 | h0
 ·have hl:xs=[]:=List.length_eq_zero_iff.1 h0
  subst hl
  exact ce ao cap w
 ·obtain⟨b,o,rfl,_,_⟩:=h 0 h0
  refine stc ⟨b,o,none⟩ cap xs (fun j hj=>?_)
  obtain⟨b',o',e,_,hc⟩:=h j hj
  cases e
  unfold Addr.add
  split
  ·next h=>subst h;simpa using hc
  ·exact hc
end
theorem riP{k:IntKind}{a b:Int}(h:a=b):Ending.returned (.int k a)=.returned (.int k b):=by rw[h]
theorem pio(c:Int)(h1 : -9223372036854775808≤c)(h2:c≤9223372036854775807)(n:Nat)(hn:0<n)(hn2:n≤1000000)(w:World):Calls Tryz.prog 27 #[.int .i64 c,.int .i64 n] w fun e w'=>∃ r:Nat,r<n∧e=.returned (.int .i64 r)∧w'=w:=by
 have key:∀ a:Int,0≤a→a≤9223372036854775807→∃ r:Nat,r<n∧Int.tmod a n=r∧a%n=r:=by
  intro a ha hb
  obtain⟨m,rfl⟩:=Int.eq_ofNat_of_zero_le ha
  refine⟨m%n,Nat.mod_lt _ hn,?_,?_⟩
  ·rw[Int.tmod_eq_emod_of_nonneg (by omega)];rfl
  ·rfl
 by_cases hc:c<0
 ·obtain⟨r,r1,r2,r3⟩:=key (-(c+1)) (by omega) (by omega)
  have R:=hide r2
  have R3:=hide r3
  clear key r2 r3
  go_enter Tryz.func27,Tryz.ntmps27
  go_wp2
  go_ret
  have e:=R.o
  rw[Int.neg_tmod]at e
  exact⟨r,r1,riP e,rfl⟩
 ·obtain⟨r,r1,r2,r3⟩:=key c (by omega) (by omega)
  have R:=hide r2
  have R3:=hide r3
  clear key r2 r3
  go_enter Tryz.func27,Tryz.ntmps27
  go_wp2
  go_ret
  exact⟨r,r1,riP R3.o,rfl⟩
section
structure Bi(B br bf bd off cap:Nat)(d:List Nat)(most:Nat)(fixed:List Value)(w:World)(p held left window:Nat)(ov:Value)(out:List Nat):Prop where
 rd:Rd B br bd off cap d most w p ov out
 hbf:B≤bf
 blk:w.heap[bf]?=some (.cells (Value.pointer (some ⟨br,0,none⟩)::.int .u8 held::.int .i64 left::.int .i64 window::fixed).toArray 167 (0,0))
 hh:held<256
 hl:left≤8
variable{B br bf bd off cap:Nat}{d:List Nat}{most:Nat}{fixed:List Value}{w:World}{p held left window:Nat}{ov:Value}{out:List Nat}
def bL(d:List Nat)(p held left:Nat):List Bool:=Fo.numBits left held++Fo.bitsOf (d.drop p)
theorem Bi.c0(h:Bi B br bf bd off cap d most fixed w p held left window ov out):w.cell? ⟨bf,0,none⟩=some (.pointer (some ⟨br,0,none⟩)):=by rw[ceb h.blk];simp
theorem Bi.c1(h:Bi B br bf bd off cap d most fixed w p held left window ov out):w.cell? ⟨bf,1,none⟩=some (.int .u8 held):=by rw[ceb h.blk];simp
theorem Bi.c2(h:Bi B br bf bd off cap d most fixed w p held left window ov out):w.cell? ⟨bf,2,none⟩=some (.int .i64 left):=by rw[ceb h.blk];simp
theorem Bi.c3(h:Bi B br bf bd off cap d most fixed w p held left window ov out):w.cell? ⟨bf,3,none⟩=some (.int .i64 window):=by rw[ceb h.blk];simp
theorem Bi.fz(h:Bi B br bf bd off cap d most fixed w p held left window ov out)(i:Nat):w.frozen? ⟨bf,i,none⟩=false:=frb h.blk
theorem Bi.ne(h:Bi B br bf bd off cap d most fixed w p held left window ov out):bf≠br:=by
 intro e;have h1:=h.blk;rw[e,h.rd.blk]at h1;simp at h1
theorem Bi.drewN(h:Bi B br bf bd off cap d most fixed w p held left window ov out)(n:Nat):Bi B br bf bd off cap d most fixed (w.drewN n) p held left window ov out:=⟨h.rd.drewN n,h.hbf,h.blk,h.hh,h.hl⟩
theorem Rd.setOther{w:World}{p:Nat}{ov:Value}{out:List Nat}(h:Rd B br bd off cap d most w p ov out){a:Addr}(v:Value)(h1:B≤a.block)(h2:a.block≠br)(h3:ov.ownBlock≠some a.block):Rd B br bd off cap d most (w.setCell a v) p ov out:=by
 have hB:=h.hB
 refine⟨h.hB,h.hb,?_,?_,?_,h.byt,h.cp,h.lc,h.lm,h.lo,h.lp⟩
 ·rw[Below.heap_setCell _ _ _ _ (fun e=>h2 e.symm)];exact h.blk
 ·intro i hi;rw[cn _ (by show a.block≠bd;omega)];exact h.dat i hi
 ·exact ownsRow_setCell_other h.own h3 _
theorem Bi.own_ne(h:Bi B br bf bd off cap d most fixed w p held left window ov out):ov.ownBlock≠some bf:=Go.own_ne h.rd.own h.blk (by decide)
theorem Bi.set1(h:Bi B br bf bd off cap d most fixed w p held left window ov out)(x:Nat)(hx:x<256):Bi B br bf bd off cap d most fixed (w.setCell ⟨bf,1,none⟩ (.int .u8 x)) p x left window ov out:=by
 refine⟨h.rd.setOther _ h.hbf h.ne h.own_ne,h.hbf,?_,hx,h.hl⟩
 rw[bsC _ h.blk];simp
theorem Bi.set2(h:Bi B br bf bd off cap d most fixed w p held left window ov out)(x:Nat)(hx:x≤8):Bi B br bf bd off cap d most fixed (w.setCell ⟨bf,2,none⟩ (.int .i64 x)) p held x window ov out:=by
 refine⟨h.rd.setOther _ h.hbf h.ne h.own_ne,h.hbf,?_,h.hh,hx⟩
 rw[bsC _ h.blk];simp
theorem Bi.rdKept(h:Bi B br bf bd off cap d most fixed w p held left window ov out){w':World}{p':Nat}{ov':Value}{out':List Nat}(r:Rd B br bd off cap d most w' p' ov' out')(k:Kept 5 B [br] w w'):Bi B br bf bd off cap d most fixed w' p' held left window ov' out' :=
 ⟨r,h.hbf,k.block bf _ (by simp[h.ne]) h.blk (Or.inr (by intro c fz e;simp at e)),h.hh,h.hl⟩
theorem and1(x:Nat)(h:x<256):bits .and .u8 (x:Int) 1=((x%2:Nat):Int):=by
 have:=u8_and_nat x 1 h (by omega)
 rw[nat_mask1]at this;exact this
theorem bh(h:Bi B br bf bd off cap d most fixed w p held left window ov out)(hl:0<left) :
  Calls Tryz.prog 220 #[.pointer (some ⟨bf,0,none⟩)] w fun e w'=>e=.returned (.int .i64 (held%2:Nat))∧Bi B br bf bd off cap d most fixed w' p (held/2) (left-1) window ov out∧Kept 5 B [br,bf] w w':=by
 have c1:=h.c1
 have c2:=h.c2
 have f1:=h.fz 1
 have f2:=h.fz 2
 have b1:=h.hh
 have b2:=h.hl
 have e1:((left:Int)==0)=false:=by simp;omega
 have g:=and1 held b1
 go_enter Tryz.func220,Tryz.ntmps220
 go_wp2
 go_ret
 have i1:((held:Int)/2)=((held/2:Nat):Int):=by omega
 have i2:((left:Int)-1)=((left-1:Nat):Int):=by omega
 rw[i1,i2]
 exact⟨rfl,(h.set1 (held/2) (by omega)).set2 (left-1) (by omega),((Kept.refl _ _ _ _).setCell (by simp) _).setCell (by simp) _⟩
theorem bin(h:Bi B br bf bd off cap d most fixed w p held 0 window ov out)(hp:p<d.length) :
  Calls Tryz.prog 220 #[.pointer (some ⟨bf,0,none⟩)] w fun e w'=>e=.returned (.int .i64 (nth d p%2:Nat))∧Bi B br bf bd off cap d most fixed w' (p+1) (nth d p/2) 7 window ov out∧Kept 5 B [br,bf] w w':=by
 have c0:=h.c0
 have c2:=h.c2
 have b1:=h.rd.byt p hp
 have g:=and1 (nth d p) b1
 go_enter Tryz.func220,Tryz.ntmps220
 go_wp2_with (go_at_call 214;refine(neo h.rd hp).mono ?_;rintro e w1 ⟨rfl,r1,k1⟩;have h1:=h.rdKept r1 k1;have d1:=h1.c1;have d2:=h1.c2;have f1:=h1.fz 1;have f2:=h1.fz 2)
 go_ret
 have i1:((nth d p:Int)/2)=((nth d p/2:Nat):Int):=by omega
 rw[i1]
 exact⟨rfl,(((h1.set1 _ b1).set2 8 (by omega)).set1 (nth d p/2) (by omega)).set2 7 (by omega),(((((k1.mono (by simp)).setCell (by simp) _).setCell (by simp) _).setCell (by simp) _).setCell (by simp) _)⟩
def Fl(B br bf bd off cap:Nat)(d:List Nat)(most:Nat)(fixed:List Value)(w:World)(rest:List Bool)(window:Nat)(ov:Value)(out:List Nat):Prop:=
 ∃ p held left,Bi B br bf bd off cap d most fixed w p held left window ov out∧left<8∧bL d p held left=rest
theorem bOn(d:List Nat)(p:Nat)(hp:p<d.length):Fo.bitsOf (d.drop p)=Fo.numBits 8 (nth d p)++Fo.bitsOf (d.drop (p+1)):=by
 have:nth d p=d[p]:=by simp[nth,hp]
 rw[List.drop_eq_getElem_cons hp,Fo.bitsOf_cons,this,Fo.bits8_num]
theorem bio{b:Bool}{rest:List Bool}(h:Fl B br bf bd off cap d most fixed w (b::rest) window ov out) :
  Calls Tryz.prog 220 #[.pointer (some ⟨bf,0,none⟩)] w fun e w'=>e=.returned (.int .i64 (b.toNat:Nat))∧Fl B br bf bd off cap d most fixed w' rest window ov out∧Kept 5 B [br,bf] w w':=by
 obtain⟨p,held,left,hb,hl,hr⟩:=h
 have tb:∀ x:Nat,(x%2==1)=b→x%2=b.toNat:=by
  intro x hx
  rcases Nat.mod_two_eq_zero_or_one x with h | h<;>rw[h]at hx<;>rw[h]<;>subst hx<;>rfl
 by_cases h0:0<left
 ·obtain⟨n,rfl⟩:∃ n,left=n+1:=⟨left-1,by omega⟩
  simp only[bL,Fo.numBits,List.cons_append,List.cons.injEq]at hr
  refine(bh hb h0).mono ?_
  rintro e w' ⟨rfl,r,k⟩
  exact⟨by rw[tb held hr.1],⟨p,held/2,n,r,by omega,hr.2⟩,k⟩
 ·obtain rfl:left=0:=by omega
  have hp:p<d.length:=by
   rcases Nat.lt_or_ge p d.length with h | h
   ·exact h
   ·rw[bL,List.drop_eq_nil_of_le h]at hr;simp[Fo.numBits,Fo.bitsOf]at hr
  rw[bL,bOn d p hp]at hr
  simp only[Fo.numBits,List.nil_append,List.cons_append,List.cons.injEq]at hr
  refine(bin hb hp).mono ?_
  rintro e w' ⟨rfl,r,k⟩
  exact⟨by rw[tb _ hr.1],⟨p+1,nth d p/2,7,r,by omega,hr.2⟩,k⟩
theorem Fl.drewN{rest:List Bool}(h:Fl B br bf bd off cap d most fixed w rest window ov out)(n:Nat):Fl B br bf bd off cap d most fixed (w.drewN n) rest window ov out:=by
 obtain⟨p,held,left,hb,hl,hr⟩:=h
 exact⟨p,held,left,hb.drewN n,hl,hr⟩
theorem Fl.alloc{rest:List Bool}(h:Fl B br bf bd off cap d most fixed w rest window ov out)(o:Obj):Fl B br bf bd off cap d most fixed (w.alloc o) rest window ov out:=by
 obtain⟨p,held,left,hb,hl,hr⟩:=h
 exact⟨p,held,left,⟨hb.rd.alloc o,hb.hbf,bla _ hb.blk,hb.hh,hb.hl⟩,hl,hr⟩
theorem Fl.lt{rest:List Bool}(h:Fl B br bf bd off cap d most fixed w rest window ov out):B≤br∧B≤bf∧br<w.heap.size∧bf<w.heap.size:=by
 obtain⟨p,held,left,hb,hl,hr⟩:=h
 exact⟨hb.rd.hb,hb.hbf,lt_of_block hb.rd.blk,lt_of_block hb.blk⟩
theorem Fl.drew{rest:List Bool}(h:Fl B br bf bd off cap d most fixed w rest window ov out):Fl B br bf bd off cap d most fixed w.drew rest window ov out:=h.drewN 1
theorem or_bit(x i:Nat)(b:Bool)(hx:x<2^i)(hi:i<62):bits .or .i64 (x:Int) (wrap64 ((b.toNat:Int)*2^i))=((x+b.toNat*2^i:Nat):Int):=by
 have h1:2^i≤2^61:=Nat.pow_le_pow_right (by omega) (by omega)
 have h2:b.toNat*2^i≤1*2^i:=Nat.mul_le_mul_right _ (by cases b<;>decide)
 have e:((b.toNat:Int)*2^i)=((b.toNat*2^i:Nat):Int):=by rw[Int.natCast_mul,Int.natCast_pow];rfl
 rw[e,wrn _ (by omega),ion _ _ (by omega) (by omega),ol_ _ _ _ hx]
theorem vs_(l:List Bool)(b:Bool):Fo.val (l++[b])=Fo.val l+b.toNat*2^l.length:=by
 induction l with
 |nil=>simp[Fo.val]
 |cons c l ih=>simp only[List.cons_append,Fo.val,ih,List.length_cons,Nat.pow_succ];rw[Nat.mul_add,Nat.add_assoc];congr 2;rw[Nat.mul_comm 2,Nat.mul_assoc]
theorem bo_(n:Nat)(hn:n≤16){rest:List Bool}(hr:n≤rest.length)(h:Fl B br bf bd off cap d most fixed w rest window ov out) :
  Calls Tryz.prog 221 #[.pointer (some ⟨bf,0,none⟩),.int .i64 n] w fun e w'=>e=.returned (.int .i64 (Fo.val (rest.take n)))∧Fl B br bf bd off cap d most fixed w' (rest.drop n) window ov out∧Kept 5 B [br,bf] w w':=by
 go_enter Tryz.func221,Tryz.ntmps221
 go_wp2
 go_loopw [5,8] (fun v i wr=>∃ k:Nat,k≤n∧i=.int .i64 k∧v=.int .i64 (Fo.val (rest.take k))∧Fl B br bf bd off cap d most fixed wr (rest.drop k) window ov out∧Kept 5 B [br,bf] w wr) (fun _ i _=>n-(intOf i).toNat)
 case atStart=>exact⟨0,Nat.zero_le _,rfl,rfl,h,Kept.refl _ _ _ _⟩
 case round =>
  obtain⟨k,hk,rfl,rfl,hf,kk⟩:=hrel
  have hv:=Fo.val_lt (rest.take k)
  rw[List.length_take,Nat.min_eq_left (by omega)]at hv
  by_cases hlt:k<n
  ·have hs:=vs_ (rest.take k) rest[k]
   rw[List.length_take,Nat.min_eq_left (by omega),←List.take_succ_eq_append_getElem (by omega)]at hs
   have HS:=hide hs
   clear hs
   rw[List.drop_eq_getElem_cons (by omega)]at hf
   have ho:=hide (or_bit (Fo.val (rest.take k)) k rest[k] hv (by omega))
   generalize hX:Fo.val (rest.take k)=X at *
   generalize hY:rest[k]=Y at *
   clear hX hY
   go_wp2_with fail
   refine(bio hf).mono ?_
   rintro e w1 ⟨rfl,hf1,k1⟩
   go_wp2
   go_roundw
   case rel=>exact⟨k+1,by omega,by go_num,by rw[ho.o,HS.o],hf1,kk.trans k1⟩
   case measure=>simp[intOf];omega
  ·obtain rfl:k=n:=by omega
   go_wp2
   go_ret
   exact⟨rfl,hf,kk⟩
theorem alo{rest:List Bool}(h:Fl B br bf bd off cap d most fixed w rest window ov out) :
  Calls Tryz.prog 162 #[.pointer (some ⟨bf,0,none⟩)] w fun e w'=>e=.returned (.tuple #[])∧(∃ p held,Bi B br bf bd off cap d most fixed w' p held 0 window ov out∧Fo.bitsOf (d.drop p)=rest.drop (rest.length%8))∧Kept 5 B [br,bf] w w':=by
 obtain⟨p,held,left,hb,hl,hr⟩:=h
 have c2:=hb.c2
 have f2:=hb.fz 2
 have hlen:rest.length%8=left:=by rw[←hr,bL,List.length_append,Fo.numBits_length,Fo.bitsOf_length];omega
 go_enter Tryz.func162,Tryz.ntmps162
 go_wp2
 go_end0
 refine⟨rfl,⟨p,held,hb.set2 0 (by omega),?_⟩,(Kept.refl _ _ _ _).setCell (by simp) _⟩
 rw[hlen,←hr,bL,List.drop_left' (Fo.numBits_length _ _)]
end
section
variable{B br bf bd off cap:Nat}{d:List Nat}{most:Nat}{fixed:List Value}{w:World}{p held left window:Nat}{ov:Value}{out:List Nat}
def Cd(w:World)(bc oc:Nat)(cs ss:List Nat):Prop:=
 (∀ i,i<16→w.cell? ⟨bc,oc+i,none⟩=some (.int .i64 (nth cs i:Nat))) ∧
 ∃ g c,w.cell? ⟨bc,oc+16,none⟩=some (.slice (some ⟨g,0,none⟩) ss.length c)∧∀ i,i<ss.length→w.cell? ⟨g,i,none⟩=some (.int .i64 (nth ss i:Nat))
def psum(cs:List Nat):Nat→Nat
 |0=>0
 |k+1=>psum cs k+nth cs (k+1)
theorem pm(cs:List Nat)(a b:Nat)(h:a≤b):psum cs a≤psum cs b:=by
 induction b with
 |zero =>
  have:a=0:=by omega
  rw[this];exact Nat.le_refl _
 |succ b ih =>
  rcases Nat.lt_or_ge a (b+1)with h1 | h1
  ·have:=ih (by omega);simp only[psum];omega
  ·have:a=b+1:=by omega
   rw[this];exact Nat.le_refl _
theorem ol0(x:Nat)(b:Bool)(hx:x<2^60):bits .or .i64 ((x:Int)*2) (b.toNat:Nat)=((2*x+b.toNat:Nat):Int):=by
 have hb:b.toNat≤1:=by cases b<;>decide
 have e:((x:Int)*2)=((2*x:Nat):Int):=by omega
 rw[e,ion _ _ (by omega) (by omega)]
 have:=ol_ b.toNat x 1 (by omega)
 rw[Nat.or_comm,show 2*x=x*2^1 by omega,this]
 omega
theorem syo(bc oc:Nat)(cs ss:List Nat)(hsum:psum cs 15≤ss.length)(hss:ss.length≤1000){s:Nat}{rest rest':List Bool}
  (hC:∀ w' r,Fl B br bf bd off cap d most fixed w' r window ov out→Kept 5 B [br,bf] w w'→Cd w' bc oc cs ss)
  (hs:Fo.sym cs ss rest=some (s,rest')) (h:Fl B br bf bd off cap d most fixed w rest window ov out) :
  Calls Tryz.prog 313 #[.pointer (some ⟨bf,0,none⟩),.pointer (some ⟨bc,oc,none⟩)] w fun e w'=>e=.returned (.int .i64 s)∧Fl B br bf bd off cap d most fixed w' rest' window ov out∧Kept 5 B [br,bf] w w':=by
 go_enter Tryz.func313,Tryz.ntmps313
 go_wp2
 go_loopw [5,6,7,8] (fun c f pl l wr=>∃(k code first:Nat) (r:List Bool),k≤15∧l=.int .i64 (k+1:Nat)∧c=.int .i64 code∧f=.int .i64 first∧pl=.int .i64 (psum cs k)∧first≤code∧code<2^k∧Hid (Fo.symGo cs ss (15-k) (k+1) code first (psum cs k) r=some (s,rest'))∧Fl B br bf bd off cap d most fixed wr r window ov out∧Kept 5 B [br,bf] w wr) (fun _ _ _ l _=>16-(intOf l).toNat)
 case atStart=>exact⟨0,0,0,rest,by omega,rfl,rfl,rfl,rfl,by omega,by omega,hs,h,Kept.refl _ _ _ _⟩
 case round =>
  obtain⟨k,code,first,r,hk,rfl,rfl,rfl,rfl,hfc,hc2,hg,hf,kk⟩:=hrel
  by_cases hlt:k<15
  ·obtain⟨m,hm⟩:∃ m,15-k=m+1:=⟨14-k,by omega⟩
   cases r with
   |nil=>have hg2:=hg.o;rw[hm]at hg2;simp[Fo.symGo]at hg2
   |cons b r =>
    have hp15:=pm cs (k+1) 15 (by omega)
    have hpk:psum cs (k+1)=psum cs k+nth cs (k+1):=rfl
    have ht:2^k≤2^14:=Nat.pow_le_pow_right (by omega) (by omega)
    have hb:b.toNat≤1:=by cases b<;>decide
    have ho:=ol0 code b (by omega)
    have hpw:2^(k+1)=2*2^k:=by rw[Nat.pow_succ];omega
    generalize hN:nth cs (k+1)=N at *
    have HN:=hide hN
    clear hN
    generalize hPK:psum cs k=P at *
    generalize hPK1:psum cs (k+1)=P1 at *
    have HPK1:=hide hPK1
    clear hPK hPK1
    go_wp2_with fail
    refine(bio hf).mono ?_
    rintro e w1 ⟨rfl,hf1,k1⟩
    obtain⟨hcs,g,c,hg1,hss1⟩:=hC w1 r hf1 (kk.trans k1)
    have hcc:=hcs (k+1) (by omega)
    rw[HN.o]at hcc
    clear hcs
    have hg2:=hg.o
    rw[hm]at hg2
    simp only[Fo.symGo]at hg2
    rw[show cs.getD (k+1) 0=N from HN.o]at hg2
    by_cases hlt2:2*code+b.toNat<2*first+N
    ·rw[if_pos hlt2]at hg2
     simp only[Option.some.injEq,Prod.mk.injEq]at hg2
     obtain⟨hs1,rfl⟩:=hg2
     have hld:=hss1 (P+(2*code+b.toNat)-first*2) (by omega)
     rw[show nth ss (P+(2*code+b.toNat)-first*2)=s by rw[←hs1,nth,Nat.mul_comm first 2]]at hld
     clear hs1 hss1 hg hs
     go_wp2
     go_ret
     exact⟨rfl,hf1,kk.trans k1⟩
    ·rw[if_neg hlt2]at hg2
     have HG:Hid (Fo.symGo cs ss (15-(k+1)) (k+1+1) (2*code+b.toNat) (2*first+N) P1 r=some (s,rest')):=by
      rw[hpk,show 15-(k+1)=m by omega];exact hg2
     have HP:=hide hpk
     have hpn:P+N≤1000:=by omega
     clear hg2 hss1 hg hs hpk
     go_wp2
     go_roundw
     case rel =>
      refine⟨k+1,2*code+b.toNat,2*first+N,r,by omega,by go_num,by go_num,by go_num,?_,by omega,by omega,?_,hf1,kk.trans k1⟩
      ·rw[HPK1.o];have:=HP.o;subst this;go_num
      ·rw[HPK1.o];exact HG
     case measure=>simp[intOf];omega
  ·have hg2:=hg.o
   rw[show 15-k=0 by omega]at hg2
   simp[Fo.symGo]at hg2
theorem ri{k:IntKind}{a b:Int}(h:a=b):Ending.returned (.int k a)=.returned (.int k b):=by rw[h]
def sV(x:Nat × Nat):Value:=.agg #[.int .i64 (x.1:Nat),.int .i64 (x.2:Nat)]
theorem lev:∀ s:Fin 286,265≤s.val→s.val≠285→wrap64 (3+wrap64 ((4+((s.val:Int)-257)%4)*2^((s.val-257)/4-1)))=((Fo.lenSpan s.val).1:Nat)∧((s.val:Int)-257)/4-1=((Fo.lenSpan s.val).2:Nat):=by decide +kernel
theorem lSo(s:Nat)(h1:257≤s)(h2:s≤285)(w:World):Calls Tryz.prog 267 #[.int .i64 s] w fun e w'=>e=.returned (sV (Fo.lenSpan s))∧∃ o,w'=w.alloc o:=by
 by_cases c1:s=285
 ·subst c1
  go_enter Tryz.func267,Tryz.ntmps267
  go_wp2
  refine bodyPost_ret (v:=sV (Fo.lenSpan 285)) (by simp[results,Tryz.results267,go_sem,sV,Fo.lenSpan]) rfl ⟨rfl,?_⟩
  exact⟨_,rfl⟩
 have e1:((s:Int)==285)=false:=by simp;omega
 by_cases c2:s-257<8
 ·have c3:(s:Int)-257<8:=by omega
  go_enter Tryz.func267,Tryz.ntmps267
  go_wp2
  refine bodyPost_ret (v:=sV (Fo.lenSpan s)) ?_ rfl ⟨rfl,?_⟩
  ·simp[results,Tryz.results267,go_sem,sV,Fo.lenSpan,c1,c2];omega
  ·exact⟨_,rfl⟩
 ·have c3:¬ (s:Int)-257<8:=by omega
  have g1:0≤((s:Int)-257)/4-1:=by omega
  have g2:((s:Int)-257)/4-1<6:=by omega
  go_enter Tryz.func267,Tryz.ntmps267
  go_wp2
  obtain⟨v1,v2⟩:=lev ⟨s,by omega⟩ (by show 265≤s;omega) c1
  simp only[]at v1 v2
  refine bodyPost_ret (v:=sV (Fo.lenSpan s)) ?_ rfl ⟨rfl,?_⟩
  ·simp[results,Tryz.results267,go_sem,sV,v1,v2]
  ·exact⟨_,rfl⟩
theorem div:∀ s:Fin 30,4≤s.val→wrap64 (1+wrap64 ((2+(s.val:Int)%2)*2^(s.val/2-1)))=((Fo.distSpan s.val).1:Nat)∧(s.val:Int)/2-1=((Fo.distSpan s.val).2:Nat):=by decide +kernel
theorem dSo(s:Nat)(h2:s≤29)(w:World):Calls Tryz.prog 269 #[.int .i64 s] w fun e w'=>e=.returned (sV (Fo.distSpan s))∧∃ o,w'=w.alloc o:=by
 by_cases c1:s<4
 ·have c3:(s:Int)<4:=by omega
  go_enter Tryz.func269,Tryz.ntmps269
  go_wp2
  refine bodyPost_ret (v:=sV (Fo.distSpan s)) ?_ rfl ⟨rfl,?_⟩
  ·simp[results,Tryz.results269,go_sem,sV,Fo.distSpan,c1]
  ·exact⟨_,rfl⟩
 ·have c3:¬ (s:Int)<4:=by omega
  have g1:0≤(s:Int)/2-1:=by omega
  have g2:(s:Int)/2-1<14:=by omega
  go_enter Tryz.func269,Tryz.ntmps269
  go_wp2
  obtain⟨v1,v2⟩:=div ⟨s,by omega⟩ (by show 4≤s;omega)
  simp only[]at v1 v2
  refine bodyPost_ret (v:=sV (Fo.distSpan s)) ?_ rfl ⟨rfl,?_⟩
  ·simp[results,Tryz.results269,go_sem,sV,v1,v2]
  ·exact⟨_,rfl⟩
theorem wo_(x:Nat × Nat)(hx:x.2≤15)(hx1:x.1≤100000){rest:List Bool}(hr:x.2≤rest.length)(h:Fl B br bf bd off cap d most fixed w rest window ov out) :
  Calls Tryz.prog 314 #[.pointer (some ⟨bf,0,none⟩),sV x] w fun e w'=>e=.returned (.int .i64 (x.1+Fo.val (rest.take x.2):Nat))∧Fl B br bf bd off cap d most fixed w' (rest.drop x.2) window ov out∧Kept 5 B [br,bf] w w':=by
 unfold sV
 obtain⟨l1,l2,l3,l4⟩:=h.lt
 have hv:=Fo.val_lt (rest.take x.2)
 rw[List.length_take,Nat.min_eq_left hr]at hv
 have hp:2^x.2≤2^15:=Nat.pow_le_pow_right (by omega) hx
 have hbig:Fo.val (rest.take x.2)<32768:=by omega
 clear hv hp
 go_enter Tryz.func314,Tryz.ntmps314
 go_wp2_with fail
 go_region_with (go_at_call 221;refine(bo_ x.2 (by omega) hr ((h.alloc (.cells #[.int .i64 (x.1:Nat),.int .i64 (x.2:Nat)] 247)).drew)).mono ?_;rintro e w1 ⟨rfl,hf1,k1⟩;have hbox:=k1.block w.heap.size _ (by simp;omega) (show(w.alloc (.cells #[.int .i64 (x.1:Nat),.int .i64 (x.2:Nat)] 247)).drew.heap[w.heap.size]?=_ from bln _ _) (Or.inr (by intro c fz e;simp at e));have hb0:w1.cell? ⟨w.heap.size,0,none⟩=some (.int .i64 (x.1:Nat)):=(ceb hbox))
 all_goals (have kk:=(((Kept.refl 5 B [br,bf] w).alloc (.cells #[.int .i64 (x.1:Nat),.int .i64 (x.2:Nat)] 247)).drew).trans k1;clear k1 hbox hb0)
 all_goals go_wp2
 all_goals go_ret
 all_goals exact⟨ri (by first | (rw[IntKind.wrap_i64];omega) | omega),hf1,kk⟩
end
end Go.Proofs.YtgkljcmjnphpeaaGreatDoor
