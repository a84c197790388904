import Derived.Test.YtgkljcmjnphpeaaGreatDoorK45
set_option linter.unusedVariables false
set_option linter.unusedSimpArgs false
set_option maxHeartbeats 4000000
set_option maxRecDepth 100000
namespace Go.Proofs.YtgkljcmjnphpeaaGreatDoor
open Go.RowKit
section
variable{w:World}{ao:Option Addr}{data:List Nat}
structure Mem(w:World)(bd off cap:Nat)(d:List Nat):Prop where
 lt:bd<w.heap.size
 cell:∀ i,i<d.length→w.cell? ⟨bd,off+i,none⟩=some (.int .u8 (nth d i:Nat))
 byt:∀ i,i<d.length→nth d i<256
 cp:d.length≤cap
 lc:cap≤9223372036854775807
theorem Mem.rd{w:World}{bd off cap most:Nat}{d:List Nat}(h:Mem w bd off cap d)(hm:most≤1000000) :
  Rd w.heap.size w.heap.size bd off cap d most (w.alloc (.cells #[.slice (some ⟨bd,off,none⟩) d.length cap,.int .i64 0,.slice none 0 0,.int .i64 most] 141 (0,0))) 0 (.slice none 0 0) []:=
 Rd.start (most:=most) h.lt h.cell h.byt h.cp h.lc hm
theorem nbB{l:List Nat}(h:∀ x∈l,x<256)(i:Nat)(hi:i<l.length):nth l i<256:=by
 have e:nth l i=l[i]:=by simp only[nth,List.getD_eq_getElem?_getD,List.getElem?_eq_getElem hi,Option.getD_some]
 rw[e];exact h _ (List.getElem_mem hi)
structure FE(f:Nat)(data enc:List Nat):Prop where
 pos:0<enc.length
 len:enc.length≤2*data.length+20
 byt:∀ x∈enc,x<256
 ok:∀(w:World) (bd off cap most:Nat),Mem w bd off cap enc→most≤1000000→data.length≤most→Calls Tryz.prog 80 #[.int .i64 f,.slice (some ⟨bd,off,none⟩) enc.length cap,.int .i64 most] w fun e w'=>∃ v,e=.returned v∧w'.ownsRow w.heap.size 5 1 v data.length (data.map fun x:Nat=>.int .u8 (x:Int))∧Below w.heap.size w w'
 cap:∀(w:World) (bd off cap most:Nat),Mem w bd off cap enc→most<data.length→most≤1000000→Calls Tryz.prog 80 #[.int .i64 f,.slice (some ⟨bd,off,none⟩) enc.length cap,.int .i64 most] w fun e w'=>e=gU 6∧Below w.heap.size w w'
 byd:∀ x∈data,x<256
 run:f=3→enc=Fo.encRun data
 few:f=4→enc.length≤data.length+11
theorem fe3(byt:∀ x∈data,x<256):FE 3 data (Fo.encRun data):=by
 have e:Fo.encRun data=Fo.runCore (data.length+1) data++[128]:=by rw[Fo.encRun,Fo.runGo_core]
 have hl:=Fo.runCore_len (data.length+1) data
 refine⟨by rw[e];simp,by rw[e,List.length_append];simp;omega,?_,?_,?_,byt,fun _=>rfl,fun h=>by omega⟩
 ·intro x hx
  rw[e]at hx
  rcases List.mem_append.1 hx with hx | hx
  ·exact Fo.runCore_byte _ data byt x hx
  ·simp at hx;omega
 ·intro w bd off cap most hM hm h1
  exact fdo (hM.rd hm) (fun w br B ov r=>dRo data byt rfl r h1)
 ·intro w bd off cap most hM h1 hm
  exact fdn (hM.rd hm) (fun w br B ov r=>dRc data byt rfl r h1)
theorem sub(l:List Nat):∀ x∈sum4 l,x<256:=by
 have:=sAl l
 intro x hx
 simp only[sum4,List.mem_cons,List.not_mem_nil,or_false]at hx
 rcases hx with rfl | rfl | rfl | rfl<;>omega
theorem fe4{bl:List Nat}(byt:∀ x∈data,x<256)(hP:Pa data bl)(h1:bl.length≤data.length+5)(hb:∀ x∈bl,x<256):FE 4 data (flOut data bl):=by
 have bn:=fun i hi=>nbB byt i hi
 have e:flOut data bl=120::156::(bl++sum4 data):=by simp[flOut]
 have ls:(sum4 data).length=4:=rfl
 have ll:(flOut data bl).length=bl.length+6:=by rw[e];simp[ls]
 refine⟨by omega,by omega,?_,?_,?_,byt,fun h=>by omega,fun _=>by omega⟩
 ·intro x hx
  rw[e]at hx
  rcases List.mem_cons.1 hx with rfl | hx
  ·omega
  rcases List.mem_cons.1 hx with rfl | hx
  ·omega
  rcases List.mem_append.1 hx with hx | hx
  ·exact hb x hx
  ·exact sub data x hx
 ·intro w bd off cap most hM hm h1
  obtain⟨r,hbk,hr⟩:=hP.unp most (sum4 data) h1
  refine fo_ (hM.rd hm) (fun w br B ov R=>dFo R (by omega) (by rw[e];rfl) (by rw[e];rfl) (r:=r) (data:=data) (by rw[e];exact hbk) (sum4 data) rfl (fun i hi=>nbB (sub data) i hi) hr rfl bn)
 ·intro w bd off cap most hM h1 hm
  refine fn0 (hM.rd hm) (fun w br B ov R=>dFc R (by omega) (by rw[e];rfl) (by rw[e];rfl) (by rw[e];exact hP.no most (sum4 data) h1))
def FD(f most:Nat)(enc:List Nat)(res:Except Nat (List Nat)):Prop:=∃ d,FE f d enc∧((d.length≤most∧res=.ok d)∨(most<d.length∧res=.error 6))
theorem eRn(cap:Nat):Calls Tryz.prog 103 #[.slice ao 0 cap] w fun e w'=>∃ v,e=.returned v∧w'.ownsRow w.heap.size 5 1 v 1 ([128].map fun x:Nat=>.int .u8 (x:Int))∧Kept 5 w.heap.size [] w w':=by
 obtain⟨i0,hi,hz0,hz1,hz2⟩:=info_parts Tryz.infoByte
 go_enter Tryz.func103,Tryz.ntmps103
 go_wp2
 go_loopw [0,3] (fun d v wr=>d=.slice ao 0 cap∧v=.slice none 0 0∧wr=w) (fun _ _ _=>0)
 case atStart=>exact⟨rfl,rfl,rfl⟩
 case round =>
  obtain⟨rfl,rfl,rfl⟩:=hrel
  go_wp2_with (at_builtin;refine wpList_append_own _ rfl (.tmp 37) (.tmp 38) 23 rfl wr.heap.size 5 i0 (.int .u8 0) 1 1 Tryz.underlying23 hi hz0 hz1 hz2 rfl (by decide) (.slice none 0 0) 0 [] rfl (World.ownsRow_nil _ _ _ _) ⟨wr.heap.size,0,none⟩ 1 1 ([128].map fun x:Nat=>.int .u8 (x:Int)) rfl rfl ?hnews ?hone ?h63 ?hby ?hbs ?_)
  case hnews=>exact news1 rfl
  case hone=>intro u hu;simp at hu;subst hu;rfl
  case h63=>unfold maxLen;omega
  case hby=>omega
  case hbs=>simp
  intro v' w2 hr2 hg2 _
  have k2:=((Kept.refl 5 wr.heap.size [] wr).alloc _).grown hg2 (fun g hg=>by simp[Value.ownBlock]at hg)
  clear hg2
  go_wp2
  go_ret
  exact⟨v',rfl,hr2,k2⟩
theorem encFE:EncBy FE 65535:=by
 refine⟨fun w v f d h1 hv hl=>?_,fun f d enc h=>h.byt,fun f d enc h=>by have:=h.len;omega⟩
 obtain⟨⟨ao,cap,rfl,hd,lc1,lc2,hn⟩,bm⟩:=hv
 have byt:∀ i,i<d.length→nth d i<256:=fun i hi=>nbB bm i hi
 obtain rfl | rfl:=h1
 ·have:=fenc3 (w:=w) (ao:=ao) (n:=d.length) (cap:=cap) (P:=fun v w'=>∃ enc,w'.ownsRow w.heap.size 5 1 v enc.length (byv enc)∧Below w.heap.size w w'∧FE 3 d enc) (by
   by_cases h0:0<d.length
   ·obtain⟨b,o,rfl,_,_⟩:=hd.at h0
    refine(eRs hd (Nat.le_refl _) byt (by omega) ⟨lc1,lc2⟩).mono ?_
    rintro e w' ⟨v,rfl,k1,k2⟩
    exact⟨v,rfl,Fo.encRun d,k1,k2.below (Nat.le_refl _) (by simp),fe3 bm⟩
   ·obtain rfl:d=[]:=List.eq_nil_of_length_eq_zero (by omega)
    refine(eRn cap).mono ?_
    rintro e w' ⟨v,rfl,k1,k2⟩
    exact⟨v,rfl,[128],k1,k2.below (Nat.le_refl _) (by simp),fe3 (data:=[]) bm⟩)
  refine this.mono ?_
  rintro e w' ⟨v,rfl,enc,k1,k2,k3⟩
  exact⟨v,enc,rfl,k1,k2,k3⟩
 ·have:=fenc4 (w:=w) (ao:=ao) (n:=d.length) (cap:=cap) (P:=fun v w'=>∃ enc,w'.ownsRow w.heap.size 5 1 v enc.length (byv enc)∧Below w.heap.size w w'∧FE 4 d enc) ((eFo hd (Nat.le_refl _) byt hl ⟨lc1,lc2⟩ hn).mono (by
   rintro e w' ⟨v,bl,rfl,k1,k2,k3,k4,k5,k6⟩
   exact⟨v,rfl,flOut d bl,k1,k2,fe4 bm k3 k5 k6⟩))
  refine this.mono ?_
  rintro e w' ⟨v,rfl,enc,k1,k2,k3⟩
  exact⟨v,enc,rfl,k1,k2,k3⟩
theorem decFD:DecBy FD (fun _=>True):=by
 refine⟨fun w v f most d res h1 hv hm _ hD=>?_,fun _ _ _ _=>trivial,fun f most d l h=>?_⟩
 ·obtain⟨dat,hF,hcase⟩:=hD
  obtain⟨⟨ao,cap,rfl,hd,lc1,lc2,hn⟩,bm⟩:=hv
  obtain⟨b,o,rfl,hlt,hc⟩:=hd.at hF.pos
  have hM:Mem w b o cap d:=⟨hlt,hc,fun i hi=>nbB bm i hi,lc1,lc2⟩
  rcases hcase with⟨h5,rfl⟩ | ⟨h5,rfl⟩
  ·exact hF.ok w b o cap most hM hm h5
  ·exact hF.cap w b o cap most hM h5 hm
 ·obtain⟨dat,hF,⟨_,e⟩ | ⟨_,e⟩⟩:=h
  ·cases e;exact hF.byd
  ·cases e
end
namespace Fo
theorem saGa{l:List Nat}{c:Nat}(h:∀ i,i<l.length→nth l i=c)(h0:0<l.length):∀(f n:Nat),n≤128→n≤l.length→128≤n+f→sameGo l f n=min 128 l.length
 |0,n,h1,h2,h3=>by unfold sameGo;omega
 |f+1,n,h1,h2,h3=>by
  unfold sameGo
  by_cases c1:n<l.length∧n<128
  ·rw[if_pos ⟨c1.1,c1.2,by rw[h n c1.1,h 0 h0]⟩]
   exact saGa h h0 f (n+1) (by omega) (by omega) (by omega)
  ·rw[if_neg (fun z=>c1 ⟨z.1,z.2.1⟩)]
   omega
theorem rGa{c:Nat}:∀(f:Nat) (l:List Nat),(∀ i,i<l.length→nth l i=c)→(runGo f l).length≤2*((l.length+127)/128)+1
 |0,l,_=>by simp[runGo]
 |f+1,l,h=>by
  unfold runGo
  by_cases c0:l.length=0
  ·rw[if_pos c0];simp
  ·rw[if_neg c0]
   have hs:sameN l=min 128 l.length:=saGa h (by omega) 128 1 (by omega) (by omega) (by omega)
   have hd:∀ k i,i<(l.drop k).length→nth (l.drop k) i=c:=fun k i hi=>by
    rw[List.length_drop]at hi
    have:=h (k+i) (by omega)
    simpa[nth]using this
   by_cases c1:1<sameN l
   ·rw[if_pos c1]
    have ih:=rGa f (l.drop (sameN l)) (hd _)
    rw[List.length_drop]at ih
    simp only[List.length_cons]
    omega
   ·rw[if_neg c1]
    have hl1:l.length=1:=by omega
    have hm:=mixN_le l (by omega) c1
    have ih:=rGa f (l.drop (mixN l)) (hd _)
    rw[List.length_drop]at ih
    simp only[List.length_cons,List.length_append,List.length_take]
    omega
theorem encRun_alike{l:List Nat}{c:Nat}(h:∀ i,i<l.length→nth l i=c):(encRun l).length≤2*((l.length+127)/128)+1:=rGa _ l h
def fullS:VT 12:=(⟨8,0,0,[],[],[],[4,3]⟩:Node (VT 11))
theorem full_doc(t:List Nat)(ht:t.length≤20000):isDoc [fullA,fullB t] 1=true:=by
 have hA:oneOk 2 1 2 (show Node (VT 11)from fullA)=true:=by decide
 have hB:oneOk 2 1 2 (show Node (VT 11)from fullB t)=true:=by
  have:rightV (show Node (VT 11)from fullB t)=true:=by
   show streamOk (show Node (VT 11)from fullB t)=true
   have h1:decide ((strN t).size≤20000)=true:=by rw[stNs];simpa using ht
   show(dictOk [] 0&&decide ((strN t).size≤20000)&&decide (2≤4)&&([]:List (List Nat)).all (fun s => !barred (strN s))&&([4,3]:List Nat).all (fun f=>decide (1≤f∧f≤4)))=true
   rw[h1]
   rfl
  unfold oneOk
  rw[this]
  rfl
 have h1:stepW 2 11 2 (show Node (VT 11)from fullA)=some 2:=by
  unfold stepW
  rw[show 12-11=1 from rfl,if_pos hA]
  rfl
 have h2:stepW 2 11 2 (show Node (VT 11)from fullB t)=some 2:=by
  unfold stepW
  rw[show 12-11=1 from rfl,if_pos hB]
  rfl
 have hw:walk 2 12 2 [fullA,fullB t]=some 2:=by
  refine(walk_cons 2 11 2 fullA [fullB t]).trans ?_
  rw[h1]
  refine(walk_cons 2 11 2 (fullB t) []).trans ?_
  rw[h2]
  rfl
 have hi:isDoc [fullA,fullB t] 1=(decide (1≤2∧2≤100)&&decide ((1:Int)≤1∧(1:Int)≤2)&&decide ((some 7:Option Nat)=some 7)&&(walk 2 12 2 [fullA,fullB t]).isSome):=rfl
 rw[hi,hw]
 rfl
end Fo
theorem fo0(t:List Nat)(hb:∀ x∈t,x<256)(ht:t.length≤20000):∀ y∈[Fo.fullA,Fo.fullB t],ObjOk 65535 9 y:=by
 intro y hy
 rcases List.mem_cons.1 hy with rfl | hy
 ·refine⟨fun h=>(by cases h),fun _=>?_,by show 100+4*0+0+0≤100000000;omega⟩
  exact⟨Or.inl (Nat.le_refl 7),by show _≤(0:Int)∧(0:Int)≤_;omega,fun h=>by have h:(7:Nat)=3:=h;omega,fun _=>rfl,fun x hx=>(by cases hx),fun s hs=>(by cases hs),fun y hy=>(by cases hy)⟩
 ·have hy:=List.mem_singleton.1 hy
  subst hy
  refine⟨fun _=>⟨[⟨4,Or.inr rfl⟩,⟨3,Or.inl rfl⟩],⟨rfl,(by show 2≤20;omega),hb,fun y hy=>(by cases hy),fun s hs=>(by cases hs),rfl,Nat.zero_le _⟩,?_,?_⟩,fun h=>absurd rfl h,?_⟩
  ·show 2^2*(t.length+36)≤2*65535;omega
  ·show t.length≤65535;omega
  ·show 100+4*t.length+0+0≤100000000;omega
theorem fuf(t:List Nat):∀ y∈[Fo.fullA,Fo.fullB t],Fewf y:=by
 intro y hy
 rcases List.mem_cons.1 hy with rfl | hy
 ·exact⟨Nat.zero_le _,Nat.zero_le _,Nat.zero_le _,fun y hy=>by cases hy⟩
 ·have hy:=List.mem_singleton.1 hy
  subst hy
  exact⟨Nat.zero_le _,Nat.zero_le _,by show 2≤200000;omega,fun y hy=>by cases hy⟩
structure FullF(t:List Nat)(ms:List (List Nat))(m d:List Nat):Prop where
 ms:ms=[Fo.wv (k:=12) Fo.fullA,Fo.wstream 9 (Fo.fullB t) d]
 run:FE 3 t m
 flt:FE 4 m d
 byt:∀ x∈d,x<256
theorem fub{t:List Nat}{ms:List (List Nat)}(h:Bodies FE 9 [Fo.fullA,Fo.fullB t] ms)(hl:ms.length=2):∃ m d,FullF t ms m d:=by
 match ms,hl with
 | [a,b],_ =>
  rcases h.each 0 a _ rfl rfl with⟨h8,_⟩ | ⟨_,ha⟩
  ·cases h8
  rcases h.each 1 b _ rfl rfl with⟨_,d,hp,_,hb,hx⟩ | ⟨h8,_⟩
  ·obtain⟨m,⟨m2,h1,h2⟩,h3⟩:=hp
   have h1:m2=t:=h1
   subst h1
   exact⟨m,d,by rw[ha,hx],h2,h3,hb⟩
  ·exact absurd rfl h8
theorem FullF.small{t:List Nat}{ms:List (List Nat)}{m d:List Nat}(h:FullF t ms m d){c:Nat}(hc:∀ i,i<t.length→nth t i=c)(ht:t.length≤20000):m.length≤315∧d.length≤326:=by
 have h1:=Fo.encRun_alike hc
 rw[←h.run.run rfl]at h1
 have h2:=h.flt.few rfl
 omega
theorem dil{n k:Nat}(h:n<10^(k+1)):(Fo.dig n).length≤k+1:=Fo.dig_len k n h
theorem FullF.len{t:List Nat}{ms:List (List Nat)}{m d:List Nat}(h:FullF t ms m d)(hd:d.length≤326):(Fo.whead++Fo.wbody ms 1).length≤700∧(Fo.wfile ms ((1:Nat):Int)).length≤1000:=by
 have hms:=h.ms
 have e1:(Fo.wstream 9 (Fo.fullB t) d).length≤480:=by
  unfold Fo.wstream
  rw[Fo.fullD_of,Fo.fullD_wv]
  have:=dil (n:=d.length) (k:=2) (by omega)
  simp only[List.length_append,List.length_cons,List.length_nil]
  omega
 have eb:(Fo.wbody ms 1).length≤600:=by
  rw[hms]
  show(Fo.wobj 1 _++(Fo.wobj 2 _++[])).length≤600
  unfold Fo.wobj Fo.wohead
  have d1:(Fo.wint ((1:Nat):Int)).length≤1:=by rw[Fo.wint_dig];exact dil (k:=0) (by omega)
  have d2:(Fo.wint ((2:Nat):Int)).length≤1:=by rw[Fo.wint_dig];exact dil (k:=0) (by omega)
  have e0:(Fo.wv (k:=12) Fo.fullA).length=4:=rfl
  simp only[List.length_append,List.length_cons,List.length_nil]
  omega
 have e9:(Fo.whead++Fo.wbody ms 1).length=9+(Fo.wbody ms 1).length:=by rw[List.length_append];rfl
 refine⟨by omega,?_⟩
 have hl:ms.length=2:=by rw[hms];rfl
 have et:(Fo.wtable (Fo.wplaces ms 9 1)).length≤80:=by
  have hp:∀ p∈Fo.wplaces ms 9 1,p<10^10:=fun p hp=>by have:=Fo.wplaces_lt ms 9 1 p hp;omega
  have hpl:=Fo.wplaces_length ms 9 1
  unfold Fo.wtable
  rw[List.length_append,Fo.wlines_len _ hp,hpl,hl]
  show(Fo.wthead 2).length+40≤80
  have h3:(Fo.wint (((2:Nat):Int)+1)).length≤1:=by rw[show(((2:Nat):Int)+1)=((3:Nat):Int)from rfl,Fo.wint_dig];exact dil (k:=0) (by omega)
  unfold Fo.wthead
  simp only[List.length_append,List.length_cons,List.length_nil]
  omega
 have er:(Fo.wtrail ((ms.length:Int)+1) ((1:Nat):Int)).length≤60:=by
  rw[hl]
  have h3:(Fo.wint (((2:Nat):Int)+1)).length≤1:=by rw[show(((2:Nat):Int)+1)=((3:Nat):Int)from rfl,Fo.wint_dig];exact dil (k:=0) (by omega)
  have h1:(Fo.wint ((1:Nat):Int)).length≤1:=by rw[Fo.wint_dig];exact dil (k:=0) (by omega)
  unfold Fo.wtrail
  simp only[List.length_append,List.length_cons,List.length_nil]
  omega
 have ei:(Fo.wint (((Fo.whead++Fo.wbody ms 1).length:Nat):Int)).length≤3:=by
  rw[Fo.wint_dig]
  exact dil (k:=2) (by omega)
 unfold Fo.wfile
 generalize Fo.whead++Fo.wbody ms 1=HB at *
 rw[List.length_append,List.length_append,List.length_append,List.length_append,List.length_append]
 simp only[List.length_cons,List.length_nil]
 omega
theorem FullF.means{t:List Nat}{ms:List (List Nat)}{m d:List Nat}(h:FullF t ms m d)(hd:d.length≤326):Fo.document (Fo.wfile ms ((1:Nat):Int))=some ([(Fo.fullA,[]),(Fo.fullS,d)],((1:Nat):Int)):=by
 refine Fo.document_wfile ?_ (by rw[h.ms];show 2≤1000;omega) (by omega)
 rw[h.ms]
 exact⟨Fo.fullA_tells,Fo.fullB_tells t d (by omega),trivial⟩
theorem FullF.all{t:List Nat}{ms:List (List Nat)}{m d:List Nat}(h:FullF t ms m d)(hb:∀ x∈t,x<256)(ht:t.length≤20000)(hm:m.length≤315){most:Nat}(hmost:t.length+400=most):UA FD [(Fo.fullA,[]),(Fo.fullS,d)] most (.ok [Fo.fullA,Fo.fullB t]):=by
 refine Or.inl ⟨by decide,.ok [Fo.fullB t],Or.inr ⟨rfl,Or.inl ⟨t,.ok [],?_,rfl,rfl⟩⟩,rfl⟩
 refine Or.inl ⟨m,⟨m,h.flt,Or.inl ⟨by omega,rfl⟩⟩,Or.inl ⟨t,⟨t,h.run,Or.inl ⟨by omega,rfl⟩⟩,?_⟩⟩
 show _=_
 rw[if_pos (by omega),if_pos ht]
theorem FullF.less{t:List Nat}{ms:List (List Nat)}{m d:List Nat}(h:FullF t ms m d)(hb:∀ x∈t,x<256){most:Nat}(hmost:most<t.length):UA FD [(Fo.fullA,[]),(Fo.fullS,d)] most (.error 6):=by
 refine Or.inl ⟨by decide,.error 6,Or.inr ⟨rfl,Or.inr ⟨6,?_,rfl⟩⟩,rfl⟩
 by_cases c:m.length≤most
 ·exact Or.inl ⟨m,⟨m,h.flt,Or.inl ⟨c,rfl⟩⟩,Or.inr ⟨6,⟨t,h.run,Or.inr ⟨hmost,rfl⟩⟩,rfl⟩⟩
 ·exact Or.inr ⟨6,⟨m,h.flt,Or.inr ⟨by omega,rfl⟩⟩,rfl⟩
section
variable{w w':World}
theorem fp{t:List Nat}{ms:List (List Nat)}(h:Bodies FE 9 [Fo.fullA,Fo.fullB t] ms){c:Nat}(hc:∀ i,i<t.length→nth t i=c)(ht:t.length≤20000):(Fo.whead++Fo.wbody ms 1).length≤700:=by
 have hl:=h.len
 match ms,hl with
 | [],_=>decide
 | [a],_ =>
  rcases h.each 0 a _ rfl rfl with⟨h8,_⟩ | ⟨_,ha⟩
  ·cases h8
  rw[ha]
  show(Fo.whead++(Fo.wobj 1 _++[])).length≤700
  unfold Fo.wobj Fo.wohead
  have d1:(Fo.wint ((1:Nat):Int)).length≤1:=by rw[Fo.wint_dig];exact dil (k:=0) (by omega)
  have e0:(Fo.wv (k:=12) Fo.fullA).length=4:=rfl
  have e9:Fo.whead.length=9:=rfl
  simp only[List.length_append,List.length_cons,List.length_nil]
  omega
 | [a,b],_ =>
  obtain⟨m,d,hF⟩:=fub h rfl
  exact(hF.len (hF.small hc ht).2).1
namespace Fo
theorem Small.padTo(k n:Nat):Small (Fo.padTo k n):=by
 unfold Fo.padTo
 refine Small.app (fun x hx=>?_) (Small.dig n)
 have:=List.eq_of_mem_replicate hx
 omega
theorem Small.wint(n:Nat):Small (Fo.wint (n:Int)):=by rw[wint_dig];exact Small.dig n
theorem Small.table(pl:List Nat):Small (wtable pl):=by
 unfold wtable wthead
 refine Small.app (Small.app (Small.lit (by decide)) (Small.app ?_ (Small.lit (by decide)))) (Small.flatMap (fun p _=>?_))
 ·rw[show((pl.length:Int)+1)=((pl.length+1:Nat):Int)by omega];exact Small.wint _
 ·unfold wline
  exact Small.app (Small.padTo _ _) (Small.lit (by decide))
theorem Small.trail(n k:Nat):Small (wtrail ((n:Int)+1) (k:Int)):=by
 unfold wtrail
 rw[show((n:Int)+1)=((n+1:Nat):Int)by omega]
 exact Small.app (Small.app (Small.lit (by decide)) (Small.app (Small.lit (by decide)) (Small.app (Small.wint _) (Small.app (Small.lit (by decide)) (Small.app (Small.wint _) (Small.app (Small.lit (by decide)) (Small.lit (by decide)))))))) (Small.lit (by decide))
theorem Small.body:∀(ms:List (List Nat)) (n:Nat),(∀ x∈ms,Small x)→Small (wbody ms n)
 | [],_,_=>fun x hx=>by cases hx
 |x::l,n,h=>by
  unfold wbody wobj wohead
  exact Small.app (Small.app (Small.app (Small.wint n) (Small.lit (by decide))) (Small.app (h x (List.mem_cons_self ..)) (Small.lit (by decide)))) (Small.body l (n+1) (fun y hy=>h y (List.mem_cons_of_mem _ hy)))
theorem Small.file{ms:List (List Nat)}(k:Nat)(h:∀ x∈ms,Small x):Small (wfile ms (k:Int)):=by
 unfold wfile
 exact Small.app (Small.app (Small.lit (by decide)) (Small.body ms 1 h)) (Small.app (Small.table _) (Small.app (Small.trail _ _) (Small.app (Small.lit (by decide)) (Small.app (Small.wint _) (Small.lit (by decide))))))
end Fo
theorem FullF.bytes{t:List Nat}{ms:List (List Nat)}{m d:List Nat}(h:FullF t ms m d):Fo.Small (Fo.wfile ms ((1:Nat):Int)):=by
 refine Fo.Small.file 1 (fun x hx=>?_)
 rw[h.ms]at hx
 rcases List.mem_cons.1 hx with rfl | hx
 ·exact Fo.Small.lit (by decide)
 ·rw[List.mem_singleton.1 hx]
  unfold Fo.wstream
  rw[Fo.fullD_of,Fo.fullD_wv]
  exact Fo.Small.app (Fo.Small.app (Fo.Small.lit (by decide)) (Fo.Small.app (Fo.Small.lit (by decide)) (fun x hx=>by
   rcases List.mem_cons.1 hx with rfl | hx
   ·omega
   rcases List.mem_append.1 hx with hx | hx
   ·exact Fo.Small.dig _ x hx
   ·exact Fo.Small.lit (by decide) x hx))) (Fo.Small.app (Fo.Small.lit (by decide)) (Fo.Small.app h.byt (Fo.Small.lit (by decide))))
theorem fuv{W:World}{gf gv:Nat}{t:List Nat}(hf:W.heap[gf]?=some (.cells #[.int .i64 4,.int .i64 3] 3 (0,0)))(hv:W.heap[gv]?=some (.cells #[.int .i64 7,.int .i64 0,.int .i64 0,.string { data:=#[] },.slice none 0 0,.slice none 0 0,.slice none 0 0,.int .i64 8,.int .i64 0,.int .i64 0,.string (strN t),.slice none 0 0,.slice none 0 0,.slice (some ⟨gf,0,none⟩) 2 2] 67 (0,0))) :
  Vals (fun _=>True) 12 0 [Fo.fullA,Fo.fullB t] W (.slice (some ⟨gv,0,none⟩) 2 2):=by
 refine⟨[.agg #[.int .i64 7,.int .i64 0,.int .i64 0,.string { data:=#[] },.slice none 0 0,.slice none 0 0,.slice none 0 0],.agg #[.int .i64 8,.int .i64 0,.int .i64 0,.string (strN t),.slice none 0 0,.slice none 0 0,.slice (some ⟨gf,0,none⟩) 2 2]],⟨rfl,Or.inr ⟨gv,2,_,rfl,Nat.zero_le _,hv,Nat.le_refl _,by decide,rfl,rfl⟩⟩,rfl,fun i x y hx hy=>?_⟩
 match i,hx,hy with
 |0,hx,hy=>cases hx;cases hy;exact⟨.slice none 0 0,.slice none 0 0,.slice none 0 0,[],rfl,rfl,RowIn.nil _ _ _ _,fun i x y hx _=>by simp at hx,RowIn.nil _ _ _ _,RowIn.nil _ _ _ _⟩
 |1,hx,hy=>cases hx;cases hy;exact⟨.slice none 0 0,.slice none 0 0,.slice (some ⟨gf,0,none⟩) 2 2,[],rfl,rfl,RowIn.nil _ _ _ _,fun i x y hx _=>by simp at hx,RowIn.nil _ _ _ _,RowIn.of (b:=0) ⟨rfl,Or.inr ⟨gf,2,_,rfl,Nat.zero_le _,hf,Nat.le_refl _,by decide,rfl,rfl⟩⟩ (fun _ _=>trivial)⟩
 |i+2,hx,hy=>simp at hx
theorem fk(t:List Nat):∀ y∈[Fo.fullA,Fo.fullB t],KO y:=by
 intro y hy
 rcases List.mem_cons.1 hy with rfl | hy
 ·exact⟨Or.inl rfl,fun y hy=>by cases hy⟩
 ·have hy:=List.mem_singleton.1 hy
  subst hy
  exact⟨Or.inl rfl,fun y hy=>by cases hy⟩
theorem rz{w1:World}{B g N:Nat}(h:w1.ownsRow B 5 1 (.slice (some ⟨g,0,none⟩) N N) N (madeCells (Value.cells (.int .u8 0)) (N*1)).toList):w1.heap[g]?=some (.cells (byv (List.replicate N 0)).toArray 5 (0,0)):=by
 rcases h.2 with⟨h0,_⟩ | ⟨g',cap,cur,hv,_,hh,_,_,hcs,ht⟩
 ·cases h0
 cases hv
 have e:cur.toList=(madeCells (Value.cells (.int .u8 0)) (N*1)).toList:=by
  rw[←ht,List.take_of_length_le (by rw[Array.length_toList,hcs];omega)]
 have e2:(madeCells (Value.cells (.int .u8 0)) (N*1)).toList=byv (List.replicate N 0):=by
  show(madeCells #[Value.int .u8 0] (N*1)).toList=_
  rw[Nat.mul_one]
  apply List.ext_getElem
  ·simp[madeCells,byv]
  ·intro i h1 h2
   simp[madeCells,byv,Nat.mod_one]
 rw[hh]
 congr 2
 rw[←e2,←e]
theorem Env.wide(h:Env w.heap.size w)(b:Below w.heap.size w w'):Env w'.heap.size w':=by
 have h2:=h.low b
 have:=b.size
 exact⟨⟨h2.err.syn,h2.err.rng,h2.err.mx,by have:=h2.err.ls;omega,by have:=h2.err.lr;omega,by have:=h2.err.lm;omega⟩,h2.pow,by have:=h2.lp;omega⟩
theorem fuo(n c most:Int)(hn : -9223372036854775808≤n∧n≤9223372036854775807)(hc : -9223372036854775808≤c∧c≤9223372036854775807)(hm : -9223372036854775808≤most∧most≤9223372036854775807)(he:Env w.heap.size w) :
  Calls Tryz.prog 11 #[.int .i64 n,.int .i64 c,.int .i64 most] w fun e w'=>e=.returned (.bool true)∧Below w.heap.size w w':=by
 obtain⟨i0,hi,hz0,hz1,hz2⟩:=info_parts Tryz.infoByte
 have HE:=hide he
 have HP:Hid (∀ W:World,Calls Tryz.prog 27 #[.int .i64 n,.int .i64 20000] W fun e w'=>∃ r:Nat,r<20000∧e=.returned (.int .i64 r)∧w'=W):=fun W=>pio n hn.1 hn.2 20000 (by omega) (by omega) W
 clear he
 go_enter Tryz.func11,Tryz.ntmps11
 go_wp2_with fail
 refine(opo w).mono ?_
 rintro e w1 ⟨rfl,b1⟩
 have B1:=hide b1
 clear b1
 go_wp2_with fail
 refine(HP.o w1).mono ?_
 rintro e w' ⟨r,hr,rfl,hw⟩
 have hw:=hw.symm
 subst hw
 obtain⟨N,hN⟩:∃ N,r+1=N:=⟨_,rfl⟩
 have eN:1+(r:Int)=(N:Int):=by omega
 have hN1:1≤N∧N≤20000:=by omega
 go_wp2_with (at_make;refine wpList_make_full _ rfl _ _ 23 rfl w1.heap.size 5 i0 (.int .u8 0) 1 Tryz.underlying23 hi hz0 hz1 .i64 .i64 _ _ N rfl rfl (by omega) (by omega) (by rw[hz2];omega) (by unfold maxLen;omega) (Nat.le_refl _) ?_;intro w2 hown2 hg2)
 have hrow2:=rz hown2
 have b2:Below w1.heap.size w1 w2:=(Below.refl _ _).grown hg2 (Nat.le_refl _) (fun k h=>by cases h)
 obtain⟨cb,hcb,hcb2⟩:∃ cb:Nat,IntKind.u8.wrap c=(cb:Int)∧cb<256:=⟨(c%256).toNat,by rw[IntKind.wrap_u8];omega,by omega⟩
 have HR2:Hid (w2.heap[w1.heap.size]?=some (.cells (byv (List.replicate 0 cb++List.replicate (N-0) 0)).toArray 5 (0,0))):=hrow2
 have B2:=hide b2
 have HCB:=hide hcb
 clear hown2 hg2 hrow2 b2 HP
 go_loopw [9] (fun iv wr=>∃ m:Nat,m≤N∧iv=.int .i64 (m:Int)∧Hid (wr.heap[w1.heap.size]?=some (.cells (byv (List.replicate m cb++List.replicate (N-m) 0)).toArray 5 (0,0)))∧Hid (Below w1.heap.size w1 wr)) (fun iv _=>N-(intOf iv).toNat)
 case atStart=>exact⟨0,Nat.zero_le _,rfl,HR2,B2⟩
 case round =>
  obtain⟨m,hm3,rfl,HR,HB⟩:=hrel
  rcases Nat.eq_or_lt_of_le hm3 with hm3 | hm3
  ·subst hm3
   obtain⟨t,ht⟩:∃ t,t=List.replicate m cb:=⟨_,rfl⟩
   have htl:t.length=m:=by rw[ht];simp
   have hrow:wr.heap[w1.heap.size]?=some (.cells (byv t).toArray 5 (0,0)):=by
    have:=HR.o
    rw[Nat.sub_self,List.replicate_zero,List.append_nil,←ht]at this
    exact this
   have htc:∀ i,i<t.length→nth t i=cb:=fun i hi=>by
    rw[ht]at hi ⊢
    have hi2:i<m:=by simpa using hi
    simp[nth,List.getElem?_replicate,hi2]
   have htb:∀ x∈t,x<256:=fun x hx=>by
    rw[ht]at hx
    have:=List.eq_of_mem_replicate hx
    omega
   have hcv:(convert 23 9 (.slice (some ⟨w1.heap.size,0,none⟩) m m)).run Tryz.prog wr=.ok (.string (strN t)) wr:=by
    have hd:Dat wr wr.heap.size (some ⟨w1.heap.size,0,none⟩) t:=fun i hi=>⟨_,0,rfl,lt_of_block hrow,nc_ hrow (by rw[List.toList_toArray];exact List.take_of_length_le (by simp[byv])) i hi⟩
    have:=cd0 (cap:=m) hd
    rw[htl]at this
    exact this
   have HP2:=hide (pio most hm.1 hm.2 m (by omega) (by omega) wr)
   have B3:=hide (B1.o.trans (HB.o.mono B1.o.size))
   have HT:=hide (And.intro htl (And.intro htc htb))
   clear hrow htc htb ht HR HB HR2 B2 HCB hcb htl
   go_wp2_with fail
   refine HP2.o.mono ?_
   rintro e w' ⟨r2,hr2,rfl,hw⟩
   have hw:=hw.symm
   subst hw
   have xf:=bln wr (.cells #[.int .i64 4,.int .i64 3] 3)
   have xv:=bln (wr.alloc (.cells #[.int .i64 4,.int .i64 3] 3)) (.cells #[.int .i64 7,.int .i64 0,.int .i64 0,.string { data:=#[] },.slice none 0 0,.slice none 0 0,.slice none 0 0,.int .i64 8,.int .i64 0,.int .i64 0,.string (strN t),.slice none 0 0,.slice none 0 0,.slice (some ⟨wr.heap.size,0,none⟩) 2 2] 67)
   have xd:=bln ((wr.alloc (.cells #[.int .i64 4,.int .i64 3] 3)).alloc (.cells #[.int .i64 7,.int .i64 0,.int .i64 0,.string { data:=#[] },.slice none 0 0,.slice none 0 0,.slice none 0 0,.int .i64 8,.int .i64 0,.int .i64 0,.string (strN t),.slice none 0 0,.slice none 0 0,.slice (some ⟨wr.heap.size,0,none⟩) 2 2] 67)) (.cells #[.slice (some ⟨wr.heap.size+1,0,none⟩) 2 2,.int .i64 1] 31)
   simp only[World.size_alloc]at xv xd
   have xf3:=bla (.cells #[.slice (some ⟨wr.heap.size+1,0,none⟩) 2 2,.int .i64 1] 31) (bla (.cells #[.int .i64 7,.int .i64 0,.int .i64 0,.string { data:=#[] },.slice none 0 0,.slice none 0 0,.slice none 0 0,.int .i64 8,.int .i64 0,.int .i64 0,.string (strN t),.slice none 0 0,.slice none 0 0,.slice (some ⟨wr.heap.size,0,none⟩) 2 2] 67) xf)
   have xv3:=bla (.cells #[.slice (some ⟨wr.heap.size+1,0,none⟩) 2 2,.int .i64 1] 31) xv
   have b3:Below wr.heap.size wr (((wr.alloc (.cells #[.int .i64 4,.int .i64 3] 3)).alloc (.cells #[.int .i64 7,.int .i64 0,.int .i64 0,.string { data:=#[] },.slice none 0 0,.slice none 0 0,.slice none 0 0,.int .i64 8,.int .i64 0,.int .i64 0,.string (strN t),.slice none 0 0,.slice none 0 0,.slice (some ⟨wr.heap.size,0,none⟩) 2 2] 67)).alloc (.cells #[.slice (some ⟨wr.heap.size+1,0,none⟩) 2 2,.int .i64 1] 31)):=(((Below.refl _ _).alloc (Nat.le_refl _) _).alloc (by simp) _).alloc (by simp;omega) _
   clear xf xv
   generalize hW3:((wr.alloc (.cells #[.int .i64 4,.int .i64 3] 3)).alloc (.cells #[.int .i64 7,.int .i64 0,.int .i64 0,.string { data:=#[] },.slice none 0 0,.slice none 0 0,.slice none 0 0,.int .i64 8,.int .i64 0,.int .i64 0,.string (strN t),.slice none 0 0,.slice none 0 0,.slice (some ⟨wr.heap.size,0,none⟩) 2 2] 67)).alloc (.cells #[.slice (some ⟨wr.heap.size+1,0,none⟩) 2 2,.int .i64 1] 31)=W3 at *
   have hvals:=fuv xf3 xv3
   have b03:Below w.heap.size w W3:=B3.o.trans (b3.mono B3.o.size)
   have ht1:=HT.o.1
   have HWR:=hide (wo_4 (root:=1) encFE (by omega) (HE.o.low b03) b03.size hvals (fuf t) (by show 2≤200000;omega) (fun _=>fo0 t HT.o.2.2 (by omega)))
   have k0:W3.cell? ⟨wr.heap.size+1+1,0,none⟩=some (.slice (some ⟨wr.heap.size+1,0,none⟩) 2 2):=ceb xd
   have k1:W3.cell? ⟨wr.heap.size+1+1,1,none⟩=some (.int .i64 1):=ceb xd
   have HVL:=hide hvals
   have HXD:=hide xd
   have B03:=hide b03
   clear xf3 xv3 hvals b03 b3 xd ht1
   go_wp2_with fail
   refine HWR.o.mono ?_
   rintro e w4 ⟨b4,hcase⟩
   obtain⟨ms,md,dd,v4,hF,rfl,own4⟩:∃ ms m d v,FullF t ms m d∧e=.returned (.tuple #[v,.int .i64 0])∧w4.ownsRow W3.heap.size 5 1 v (Fo.wfile ms 1).length (byv (Fo.wfile ms 1)):=by
    have hdoc:=Fo.full_doc t (by have:=HT.o.1;omega)
    have h20:t.length≤20000:=by have:=HT.o.1;omega
    rcases hcase with⟨h0,_⟩ | ⟨_,ms,hb,⟨hl,_,v,e1,e2⟩ | ⟨_,hbig⟩⟩
    ·rw[hdoc]at h0;cases h0
    ·obtain⟨m,d,hF⟩:=fub hb hl
     exact⟨ms,m,d,v,hF,e1,e2⟩
    ·exfalso
     rcases hbig with⟨hl,hbig⟩ | hbig
     ·obtain⟨m,d,hF⟩:=fub hb hl
      have:=(hF.len (hF.small HT.o.2.1 h20).2).2
      have e1:((1:Nat):Int)=1:=rfl
      rw[e1]at this
      omega
     ·have:=fp hb HT.o.2.1 h20
      omega
   have h20:t.length≤20000:=by have:=HT.o.1;omega
   obtain⟨hsm,hsd⟩:=hF.small HT.o.2.1 h20
   have hlen:=(hF.len hsd).2
   have hmean:=hF.means hsd
   have hbyt:=hF.bytes
   have e1:((1:Nat):Int)=1:=rfl
   rw[e1]at hlen hmean hbyt
   obtain⟨F,hFF⟩:∃ F,F=Fo.wfile ms 1:=⟨_,rfl⟩
   rw[←hFF]at hlen hmean hbyt own4
   obtain⟨fa,fc,hv4⟩:=ows own4
   subst hv4
   have hFl:F.length≠0:=by
    intro h0
    have:F=[]:=List.length_eq_zero_iff.1 h0
    rw[this]at hFF
    unfold Fo.wfile Fo.whead at hFF
    simp at hFF
   obtain⟨gb,rfl,hgb,hfc1,hfc2,hcells⟩:∃ gb,fa=some ⟨gb,0,none⟩∧gb<w4.heap.size∧F.length≤fc∧fc≤9223372036854775807∧∀ i,i<F.length→w4.cell? ⟨gb,0+i,none⟩=some (.int .u8 (nth F i:Nat)):=by
    rcases own4.2 with⟨_,h0⟩ | ⟨g,c',cur,e,_,hh,hn',hc',hs',htk⟩
    ·exact absurd h0 hFl
    ·cases e
     exact⟨g,rfl,lt_of_block hh,hn',hc',fun i hi=>nc_ hh (by simpa using htk) i hi⟩
   have HRD:Hid (∀(W:World) (mm:Nat) (res:Except Nat (List (VT 12))),Below w4.heap.size w4 W→mm≤1000000→UA FD [(Fo.fullA,[]),(Fo.fullS,dd)] mm res→Calls Tryz.prog 25 #[.slice (some ⟨gb,0,none⟩) F.length fc,.int .i64 (mm:Nat)] W (ReadS W res 1)):=fun W mm res bW hmm hU=>by
    have b0W:Below w.heap.size w W:=B03.o.trans ((b4.mono B03.o.size).trans (bW.mono (Nat.le_trans B03.o.size b4.size)))
    have hs:=bW.size
    have heW:Env W.heap.size W:=HE.o.wide b0W
    refine reSo decFD trivial heW (fun i hi=>⟨gb,0,rfl,by omega,(bW.cell (p:=⟨gb,0+i,none⟩) hgb).trans (hcells i hi)⟩) (fun i hi=>?_) (by omega) ⟨hfc1,hfc2⟩ ⟨gb,0,rfl,by omega⟩ hmm hmean (Fo.full_doc [] (by show 0≤20000;omega)) (fun x hx=>?_) (fun x hx b hb=>?_) hU
    ·exact hbyt _ (by
      have:nth F i=F[i]:=by simp[nth,List.getElem?_eq_getElem hi]
      rw[this];exact List.getElem_mem hi)
    ·rcases List.mem_cons.1 hx with rfl | hx
     ·exact⟨[],rfl⟩
     ·rw[List.mem_singleton.1 hx];exact⟨[⟨4,Or.inr rfl⟩,⟨3,Or.inl rfl⟩],rfl⟩
    ·rcases List.mem_cons.1 hx with rfl | hx
     ·cases hb
     ·rw[List.mem_singleton.1 hx]at hb;exact hF.byt b hb
   have HF1:=hide (hF.all HT.o.2.2 h20 hsm rfl)
   have HF2:Hid (UA FD [(Fo.fullA,[]),(Fo.fullS,dd)] r2 (.error 6)):=hF.less HT.o.2.2 (by have:=HT.o.1;omega)
   obtain⟨L,hL⟩:∃ L,L=F.length:=⟨_,rfl⟩
   have hL1:L≤1000:=by omega
   rw[←hL]at HRD
   have B4:=hide b4
   have htm:=HT.o.1
   rw[htm]at HF1
   have tb:decide ((L:Int)>1000)=false:=by simp;omega
   have x4:=(b4.block (wr.heap.size+1+1) (lt_of_block HXD.o)).trans HXD.o
   have c40:w4.cell? ⟨wr.heap.size+1+1,0,none⟩=some (.slice (some ⟨wr.heap.size+1,0,none⟩) 2 2):=ceb x4
   rw[←hL]
   have eNm:(m:Int)+400=((m+400:Nat):Int):=by omega
   have HR1:=hide (HRD.o w4 (m+400) _ (Below.refl _ _) (by omega) HF1.o)
   rw[←eNm]at HR1
   have HX4:=hide x4
   clear hcase hF hsm hsd hlen hmean hbyt hFF own4 hcells HWR b4 x4 eNm k0 k1 htm hFl hfc1 hL
   go_wp2_with fail
   refine HR1.o.mono ?_
   rintro e w5 ⟨b5,ov5,rfl,hv5⟩
   obtain⟨oa5,oc5,rfl⟩:=hv5.len
   have x5:=bln w5 (.cells #[.slice oa5 2 oc5,.int .i64 1] 31)
   have b6:Below w5.heap.size w5 (w5.alloc (.cells #[.slice oa5 2 oc5,.int .i64 1] 31)):=(Below.refl _ _).alloc (Nat.le_refl _) _
   have b46:Below w4.heap.size w4 (w5.alloc (.cells #[.slice oa5 2 oc5,.int .i64 1] 31)):=b5.trans (b6.mono b5.size)
   have b36:Below W3.heap.size W3 (w5.alloc (.cells #[.slice oa5 2 oc5,.int .i64 1] 31)):=B4.o.trans (b46.mono B4.o.size)
   have x46:=(b46.block (wr.heap.size+1+1) (lt_of_block HX4.o)).trans HX4.o
   have HAL:=hide (ay (root:=1) (hv5.keep b6) (HVL.o.keep b36) (fk t))
   have B46:=hide b46
   have hl2:([Fo.fullA,Fo.fullB t]:List (VT 12)).length=2:=rfl
   rw[hl2]at HAL
   clear hv5 b5 b6 b46 b36 HR1 hl2 c40
   generalize hw6:w5.alloc (.cells #[.slice oa5 2 oc5,.int .i64 1] 31)=w6 at *
   have d0:w6.cell? ⟨w5.heap.size,0,none⟩=some (.slice oa5 2 oc5):=ceb x5
   have d1:w6.cell? ⟨w5.heap.size,1,none⟩=some (.int .i64 1):=ceb x5
   have d2:w6.cell? ⟨wr.heap.size+1+1,0,none⟩=some (.slice (some ⟨wr.heap.size+1,0,none⟩) 2 2):=ceb x46
   have d3:w6.cell? ⟨wr.heap.size+1+1,1,none⟩=some (.int .i64 1):=ceb x46
   clear x5 x46
   go_wp2_with fail
   try rw[hw6]
   refine HAL.o.mono ?_
   rintro e w7 ⟨rfl,b7⟩
   have HR2:=hide (HRD.o w7 r2 _ (B46.o.trans (b7.mono B46.o.size)) (by omega) HF2.o)
   have B47:=hide (B46.o.trans (b7.mono B46.o.size))
   clear b7 d0 d1 d2 d3 HAL hw6
   go_wp2_with fail
   refine HR2.o.mono ?_
   rintro e w8 ⟨b8,rfl⟩
   have B48:=hide (B47.o.trans (b8.mono B47.o.size))
   clear b8 HR2
   go_wp2
   go_ret
   refine⟨rfl,?_⟩
   have h1:=B48.o.alloc B48.o.size (.cells #[.slice none 0 0,.int .i64 0] 31)
   exact B03.o.trans ((B4.o.mono B03.o.size).trans (h1.mono (Nat.le_trans B03.o.size B4.o.size)))
  ·have hlen:(List.replicate m cb++List.replicate (N-m) 0).length=N:=by simp;omega
   have c0:wr.cell? ⟨w1.heap.size,m,none⟩=some (.int .u8 0):=by
    rw[ceb HR.o]
    simp[byv,List.getElem?_append_right,List.getElem?_replicate]
    omega
   have f0:wr.frozen? ⟨w1.heap.size,m,none⟩=false:=frb HR.o
   have HN2:Hid ((wr.setCell ⟨w1.heap.size,m,none⟩ (.int .u8 (cb:Int))).heap[w1.heap.size]?=some (.cells (byv (List.replicate (m+1) cb++List.replicate (N-(m+1)) 0)).toArray 5 (0,0))):=by
    unfold Hid
    rw[bsC _ HR.o]
    congr 2
    apply Array.ext'
    rw[Array.toList_setIfInBounds]
    show(byv _).set m _=byv _
    have e1:List.replicate (N-m) (0:Nat)=0::List.replicate (N-(m+1)) 0:=by
     rw[show N-m=(N-(m+1))+1 by omega];rfl
    have e2:List.replicate (m+1) cb=List.replicate m cb++[cb]:=List.replicate_succ'
    unfold byv
    rw[e1,e2,List.map_append,List.set_append_right _ _ (by simp),List.map_append,List.map_append]
    simp
   have HB2:=hide (HB.o.setCell (p:=⟨w1.heap.size,m,none⟩) (Nat.le_refl _) (.int .u8 (cb:Int)))
   go_wp2
   go_roundw
   case rel=>exact⟨m+1,by omega,by first | rfl | (congr 1),HN2,HB2⟩
   case measure=>simp[intOf];omega
end
end Go.Proofs.YtgkljcmjnphpeaaGreatDoor
