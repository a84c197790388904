import Derived.Test.YtgkljcmjnphpeaaGreatDoorK40
set_option linter.unusedVariables false
set_option linter.unusedSimpArgs false
set_option maxHeartbeats 4000000
set_option maxRecDepth 100000
namespace Go.Proofs.YtgkljcmjnphpeaaGreatDoor
open Go.RowKit
namespace Fo
def wobj(n:Nat)(x:List Nat):List Nat:=wohead (n:Int)++(x++[10,101,110,100,111,98,106,10])
def wbody:List (List Nat)→Nat→List Nat
 | [],_=>[]
 |x::l,n=>wobj n x++wbody l (n+1)
def wplaces:List (List Nat)→Nat→Nat→List Nat
 | [],_,_=>[]
 |x::l,s,n=>s::wplaces l (s+(wobj n x).length) (n+1)
theorem wbody_snoc(x:List Nat):∀(l:List (List Nat)) (n:Nat),wbody (l++[x]) n=wbody l n++wobj (n+l.length) x
 | [],n=>by simp[wbody]
 |a::l,n=>by
  show wobj n a++wbody (l++[x]) (n+1)=(wobj n a++wbody l (n+1))++wobj (n+(l.length+1)) x
  rw[wbody_snoc x l (n+1),List.append_assoc,Nat.add_assoc n 1,Nat.add_comm 1]
theorem wplaces_snoc(x:List Nat):∀(l:List (List Nat)) (s n:Nat),wplaces (l++[x]) s n=wplaces l s n++[s+(wbody l n).length]
 | [],s,n=>by simp[wplaces,wbody]
 |a::l,s,n=>by
  show s::wplaces (l++[x]) (s+(wobj n a).length) (n+1)=(s::wplaces l (s+(wobj n a).length) (n+1))++[s+(wobj n a++wbody l (n+1)).length]
  rw[wplaces_snoc x l,List.length_append,Nat.add_assoc]
  rfl
theorem wplaces_length:∀(l:List (List Nat)) (s n:Nat),(wplaces l s n).length=l.length
 | [],_,_=>rfl
 |a::l,s,n=>by
  show(wplaces l _ _).length+1=l.length+1
  rw[wplaces_length l]
theorem wplaces_lt:∀(l:List (List Nat)) (s n:Nat),∀ p∈wplaces l s n,p≤s+(wbody l n).length
 | [],_,_,p,h=>by cases h
 |a::l,s,n,p,h=>by
  have h2:p∈s::wplaces l (s+(wobj n a).length) (n+1):=h
  show p≤s+(wobj n a++wbody l (n+1)).length
  rw[List.length_append]
  rcases List.mem_cons.1 h2 with rfl | h2
  ·omega
  ·have:=wplaces_lt l _ _ p h2
   omega
def whead:List Nat:=[37,80,68,70,45,49,46,52,10]
def wfile(ms:List (List Nat))(root:Int):List Nat:=
 whead++wbody ms 1++(wtable (wplaces ms 9 1)++(wtrail ((ms.length:Int)+1) root++([115,116,97,114,116,120,114,101,102,10]++(wint (((whead++wbody ms 1).length:Nat):Int)++[10,37,37,69,79,70,10]))))
end Fo
def BO(EE:Nat→List Nat→List Nat→Prop)(j:Nat)(Y:VT (j+3))(x:List Nat):Prop:=
 (Node.kind (α:=VT (j+2)) Y=8∧∃ d,PT EE (Node.filters (α:=VT (j+2)) Y) (Node.text (α:=VT (j+2)) Y) d∧d.length+36≤2^(Node.filters (α:=VT (j+2)) Y).length*((Node.text (α:=VT (j+2)) Y).length+36)∧(∀ x∈d,x<256)∧x=Fo.wstream j Y d)∨(Node.kind (α:=VT (j+2)) Y≠8∧x=Fo.wv (k:=j+3) Y)
structure Bodies(EE:Nat→List Nat→List Nat→Prop)(j:Nat)(Ys:List (VT (j+3)))(ms:List (List Nat)):Prop where
 len:ms.length≤Ys.length
 each:∀(i:Nat) (x:List Nat) (y:VT (j+3)),ms[i]?=some x→Ys[i]?=some y→BO EE j y x
theorem Bodies.snoc{EE:Nat→List Nat→List Nat→Prop}{j:Nat}{Ys:List (VT (j+3))}{ms:List (List Nat)}{x:List Nat}{y:VT (j+3)}(h:Bodies EE j Ys ms)(hy:Ys[ms.length]?=some y)(hx:BO EE j y x):Bodies EE j Ys (ms++[x]):=by
 refine⟨?_,fun i a b ha hb=>?_⟩
 ·have:=(List.getElem?_eq_some_iff.1 hy).1
  rw[List.length_append,List.length_singleton]
  omega
 ·by_cases c:i<ms.length
  ·rw[List.getElem?_append_left c]at ha
   exact h.each i a b ha hb
  ·rw[List.getElem?_append_right (by omega)]at ha
   have hi:i-ms.length=0:=by
    have:=(List.getElem?_eq_some_iff.1 ha).1
    simp at this
    omega
   rw[hi]at ha
   cases ha
   have:i=ms.length:=by omega
   subst this
   rw[hy]at hb
   cases hb
   exact hx
structure ObjOk(M j:Nat)(Y:VT (j+3)):Prop where
 str:Node.kind (α:=VT (j+2)) Y=8→∃ fs,SOk j Y fs∧2^fs.length*((Node.text (α:=VT (j+2)) Y).length+36)≤2*M∧(Node.text (α:=VT (j+2)) Y).length≤M
 val:Node.kind (α:=VT (j+2)) Y≠8→WOk (k:=j+3) Y
 len:Fo.wlen (k:=j+3) Y≤100000000
theorem ObjOk.body{M j:Nat}{Y:VT (j+3)}{EE:Nat→List Nat→List Nat→Prop}{x:List Nat}(h:ObjOk M j Y)(hM:M≤1000000)(hx:BO EE j Y x):x.length≤102100000:=by
 have hl:=h.len
 rcases hx with⟨h8,d,_,hd,hb,rfl⟩ | ⟨h8,rfl⟩
 ·obtain⟨fs,hs,hm,_⟩:=h.str h8
  have e:(Node.filters (α:=VT (j+2)) Y).length=fs.length:=by rw[hs.fil,List.length_map]
  rw[e]at hd
  have h1:=hs.wlen d.length
  have h2:=Fo.wv_len (hs.dict d.length (by omega)).1
  unfold Fo.wstream
  simp only[List.length_append,List.length_cons,List.length_nil]
  omega
 ·have:=Fo.wv_len (h.val h8)
  omega
namespace Fo
def OT(x:List Nat)(y:VT 12 × List Nat):Prop:=∀ r:List Nat,objVal (10::(x++(10::([101,110,100,111,98,106]++(10::r)))))=some (y,10::([101,110,100,111,98,106]++(10::r)))
def AllO:List (List Nat)→List (VT 12 × List Nat)→Prop
 | [],[]=>True
 |x::l,y::m=>OT x y∧AllO l m
 |_,_=>False
theorem AllO.len:∀{l:List (List Nat)} {m:List (VT 12 × List Nat)},AllO l m→l.length=m.length
 | [],[],_=>rfl
 |_::_,_::_,h=>by rw[List.length_cons,List.length_cons,AllO.len h.2]
 | [],_::_,h=>h.elim
 |_::_,[],h=>h.elim
theorem wint_dig(n:Nat):wint (n:Int)=dig n:=by
 unfold wint
 rw[if_neg (by omega)]
 rfl
theorem ow_{x:List Nat}{y:VT 12 × List Nat}{i:Nat}(hx:OT x y)(r:List Nat):object (i+1) (wobj (i+1) x++r)=some (y,10::r):=by
 unfold object wobj wohead
 rw[wint_dig]
 simp only[List.append_assoc]
 rw[ded,taWw (dip _) (NP.lit (by decide))]
 simp only[List.cons_append,List.nil_append]
 rw[tWw rfl]
 have e1:takesWord [48] (48::32::111::98::106::10::(x++(10::101::110::100::111::98::106::10::r)))=some (32::111::98::106::10::(x++(10::101::110::100::111::98::106::10::r))):=taWw (s:=[48]) (pL (by simp) (by decide)) (NP.cons (by decide))
 rw[e1]
 simp only[]
 rw[tWw rfl]
 have e2:takesWord [111,98,106] (111::98::106::10::(x++(10::101::110::100::111::98::106::10::r)))=some (10::(x++(10::101::110::100::111::98::106::10::r))):=taWw (s:=[111,98,106]) (pL (by simp) (by decide)) (NP.cons (by decide))
 rw[e2]
 simp only[]
 have h:=hx r
 simp only[List.cons_append,List.nil_append]at h
 rw[h]
 simp only[]
 rw[tWw rfl]
 have e3:takesWord [101,110,100,111,98,106] (101::110::100::111::98::106::10::r)=some (10::r):=taWw (s:=[101,110,100,111,98,106]) (pL (by simp) (by decide)) (NP.cons (by decide))
 rw[e3]
theorem wh(n:Nat)(x r:List Nat):∃ b t,wobj n x++r=b::t∧48≤b∧b≤57:=by
 obtain⟨h1,h2⟩:=di n
 obtain⟨b,s,hs⟩:=List.exists_cons_of_ne_nil h1
 have hb:=h2 b (by rw[hs];exact List.mem_cons_self ..)
 unfold wobj wohead
 rw[wint_dig,hs]
 exact⟨b,_,rfl,hb⟩
theorem sw(l:List (List Nat))(n:Nat)(r:List Nat):skip (wbody l n++([120,114,101,102]++r))=wbody l n++([120,114,101,102]++r):=by
 cases l with
 |nil=>exact skp (by decide)
 |cons x l =>
  rw[wbody,List.append_assoc]
  obtain⟨b,t,e,hb⟩:=wh n x (wbody l (n+1)++([120,114,101,102]++r))
  rw[e]
  exact skp (pd hb)
theorem obw(len:Nat)(r:List Nat):∀(l:List (List Nat)) (ys:List (VT 12 × List Nat)) (i f p:Nat),AllO l ys→l.length<f→len=p+(wbody l (i+1)++([120,114,101,102]++r)).length →
  objects len f i (wbody l (i+1)++([120,114,101,102]++r))=some ((ys,wplaces l p (i+1)),[120,114,101,102]++r)
 | [],[],i,f+1,p,_,_,_=>rfl
 |x::l,y::ys,i,f+1,p,h,hf,hlen=>by
  have ha:wbody (x::l) (i+1)++([120,114,101,102]++r)=wobj (i+1) x++(wbody l (i+1+1)++([120,114,101,102]++r)):=by rw[wbody,List.append_assoc]
  have ih:=obw len r l ys (i+1) f (p+(wobj (i+1) x).length) h.2 (by simp only[List.length_cons]at hf;omega) (by rw[hlen,ha,List.length_append];omega)
  rw[ha]at hlen ⊢
  rw[objects]
  obtain⟨b,t,e,hb⟩:=wh (i+1) x (wbody l (i+1+1)++([120,114,101,102]++r))
  have hne:¬ ([120,114,101,102]:List Nat).isPrefixOf (wobj (i+1) x++(wbody l (i+1+1)++([120,114,101,102]++r)))=true:=by
   rw[e]
   have:(120:Nat)≠b:=by omega
   simp[List.isPrefixOf,this]
  rw[if_neg hne,ow_ h.1]
  simp only[]
  rw[sow (by rfl),sw,ih]
  have hp:len-(wobj (i+1) x++(wbody l (i+1+1)++([120,114,101,102]++r))).length=p:=by omega
  rw[hp]
  rfl
 |_::_,_::_,_,0,_,_,hf,_=>by omega
 | [],[],_,0,_,_,hf,_=>by simp at hf
 | [],_::_,_,_,_,h,_,_=>h.elim
 |_::_,[],_,_,_,h,_,_=>h.elim
theorem liw(r:List Nat):∀ ps:List Nat,tableLines ps (ps.flatMap wline++r)=some r
 | []=>rfl
 |p::ps=>by
  have ih:=liw r ps
  rw[List.flatMap_cons,List.append_assoc,tableLines]
  have h:tableLine (padded p++[32,48,48,48,48,48,32,110]) (wline p++(ps.flatMap wline++r))=some (ps.flatMap wline++r):=by
   generalize ps.flatMap wline++r=q
   unfold tableLine wline
   rw[show padTo 10 p++[32,48,48,48,48,48,32,110,32,10]++q=(padded p++[32,48,48,48,48,48,32,110])++([32,10]++q)by unfold padTo padded;simp,ta]
   simp only[]
   rw[ta]
   rfl
  rw[h]
  exact ih
theorem cw(n:Nat)(ps r:List Nat):crossTable n ps (wthead n++r)=tableLines ps r:=by
 unfold crossTable wthead
 rw[show((n:Int)+1)=((n+1:Nat):Int)by omega,wint_dig,show([120,114,101,102,10,48,32]++(dig (n+1)++[10,48,48,48,48,48,48,48,48,48,48,32,54,53,53,51,53,32,102,32,10]))++r=([120,114,101,102,10,48,32]++dec (n+1)++[10])++(([48,48,48,48,48,48,48,48,48,48,32,54,53,53,51,53,32,102]:List Nat)++([32,10]++r))by rw[ded];simp,ta]
 simp only[]
 unfold tableLine
 rw[ta]
 simp only[]
 rw[ta]
 rfl
def tW(n k:Nat):Node (VT 11):=⟨7,0,0,[],[(leafN (VT 10) 2 ((n+1:Nat):Int) 0 []:VT 11),(leafN (VT 10) 9 (k:Int) 0 []:VT 11)],[[83,105,122,101],[82,111,111,116]],[]⟩
theorem trWo(n k:Nat):trailerOf n (tW n k)=some (k:Int):=by
 have h:trailerOf n (tW n k)=if((n+1:Nat):Int)=((n+1:Nat):Int)then some (k:Int)else none:=rfl
 rw[h,if_pos rfl]
theorem whv{k b:Nat}(h:whB b=true)(r:List Nat):value (k+1) (b::r)=value (k+1) r:=by
 have:=(Gap.white h).value (k:=k) r
 rwa [List.singleton_append]at this
theorem nRm{b:Nat}{t:List Nat}(h:pB b=false)(hw:whB b=false)(h37:b≠37):takesRef (b::t)=none:=by
 unfold takesRef
 rw[tWm h hw h37 (by simp)]
 rfl
theorem nRw{b:Nat}{t:List Nat}(h:whB b=true):takesRef (b::t)=takesRef t:=by
 unfold takesRef
 rw[tWw h]
theorem trw(n k:Nat)(hn:n+1<10^10)(hk:k<10^10)(r:List Nat):trailer n (wtrail ((n:Int)+1) (k:Int)++r)=some ((k:Int),10::r):=by
 have key:∀ t:List Nat,takes [60,60] (skip ([60,60]++t))=some t:=fun t=>by rw[show skip ([60,60]++t)=[60,60]++t from skip_stop (by decide) (by decide),ta]
 have e:wtrail ((n:Int)+1) (k:Int)++r=[116,114,97,105,108,101,114]++(10::([60,60]++(47::([83,105,122,101]++(32::(dig (n+1)++(32::47::([82,111,111,116]++(32::(dig k++(32::48::32::82::62::62::10::r))))))))))):=by
  unfold wtrail
  rw[show((n:Int)+1)=((n+1:Nat):Int)by omega,wint_dig,wint_dig]
  simp
 unfold trailer
 rw[e,taWw (pL (by simp) (by decide)) (NP.cons (by decide))]
 simp only[]
 rw[sow (by rfl),key]
 simp only[]
 obtain⟨T,hT⟩:∃ T,47::([83,105,122,101]++(32::(dig (n+1)++(32::47::([82,111,111,116]++(32::(dig k++(32::48::32::82::62::62::10::r))))))))=T:=⟨_,rfl⟩
 have hd:∀ m,dic (value 11) (m+3) T=some (([[83,105,122,101],[82,111,111,116]],[(leafN (VT 10) 2 ((n+1:Nat):Int) 0 []:VT 11),(leafN (VT 10) 9 (k:Int) 0 []:VT 11)]),10::r):=fun m=>by
  have n1:name ([83,105,122,101]++(32::(dig (n+1)++(32::47::([82,111,111,116]++(32::(dig k++(32::48::32::82::62::62::10::r))))))))=some ([83,105,122,101],_):=nap (by decide) (NP.cons (by decide))
  have v1:value 11 (32::(dig (n+1)++(32::47::([82,111,111,116]++(32::(dig k++(32::48::32::82::62::62::10::r)))))))=some ((leafN (VT 10) 2 ((n+1:Nat):Int) 0 []:VT 11),32::47::([82,111,111,116]++(32::(dig k++(32::48::32::82::62::62::10::r))))):=by
   rw[whv rfl]
   exact vi (dip _) (NP.cons (by decide)) (whd hn) (by rw[nRw rfl];exact nRm (by decide) (by decide) (by decide))
  have n2:name ([82,111,111,116]++(32::(dig k++(32::48::32::82::62::62::10::r))))=some ([82,111,111,116],_):=nap (by decide) (NP.cons (by decide))
  have hr:takesRef (32::48::32::82::62::62::10::r)=some (62::62::10::r):=by
   unfold takesRef
   rw[tWw rfl,show(48::32::82::62::62::10::r:List Nat)=[48]++(32::82::62::62::10::r)from rfl,taWw (pL (by simp) (by decide)) (NP.cons (by decide))]
   show takesWord [82] (32::_)=_
   rw[tWw rfl,show(82::62::62::10::r:List Nat)=[82]++(62::62::10::r)from rfl,taWw (pL (by simp) (by decide)) (NP.cons (by decide))]
  have v2:value 11 (32::(dig k++(32::48::32::82::62::62::10::r)))=some ((leafN (VT 10) 9 (k:Int) 0 []:VT 11),62::62::10::r):=by
   rw[whv rfl]
   exact vr (dip _) (NP.cons (by decide)) (whd hk) hr
  rw[←hT,ds_ n1 v1]
  have hg:=dg (α:=VT 11) (f:=value 11) (Gap.white (b:=32) rfl) (m+1) (47::([82,111,111,116]++(32::(dig k++(32::48::32::82::62::62::10::r)))))
  rw[List.singleton_append]at hg
  rw[hg,ds_ n2 v2,de]
  rfl
 obtain⟨m,hm⟩:∃ m,T.length+1=m+3:=⟨T.length-2,by rw[←hT];simp only[List.length_cons,List.length_append];omega⟩
 rw[hT,hm,hd m]
 show(trailerOf n (tW n k)).map _=_
 rw[trWo]
 rfl
theorem end_w(at_:Nat):atEnd at_ (10::([115,116,97,114,116,120,114,101,102,10]++(dig at_++[10,37,37,69,79,70,10])))=some []:=by
 unfold atEnd
 rw[tWw rfl,show([115,116,97,114,116,120,114,101,102,10]:List Nat)++(dig at_++[10,37,37,69,79,70,10])=[115,116,97,114,116,120,114,101,102]++(10::(dig at_++[10,37,37,69,79,70,10]))from rfl,taWw (pL (by simp) (by decide)) (NP.cons (by decide))]
 simp only[]
 rw[tWw (by rfl),ded,taWw (dip _) (NP.cons (by decide))]
 rfl
theorem document_wfile{ms:List (List Nat)}{ys:List (VT 12 × List Nat)}{k:Nat}(h:AllO ms ys)(hn:ms.length≤1000)(hk:k<10^10):document (wfile ms (k:Int))=some (ys,(k:Int)):=by
 have hl:=h.len
 obtain⟨rest,hrest⟩:∃ rest,wtable (wplaces ms 9 1)++(wtrail ((ms.length:Int)+1) (k:Int)++([115,116,97,114,116,120,114,101,102,10]++(wint (((whead++wbody ms 1).length:Nat):Int)++[10,37,37,69,79,70,10])))=[120,114,101,102]++rest:=⟨_,rfl⟩
 have hw:wfile ms (k:Int)=[37,80,68,70,45,49,46,52,10]++(wbody ms 1++([120,114,101,102]++rest)):=by
  unfold wfile
  rw[hrest,List.append_assoc]
  rfl
 have hlen:(wfile ms (k:Int)).length=9+(wbody ms 1++([120,114,101,102]++rest)).length:=by
  rw[hw,List.length_append];rfl
 have hb9:(whead++wbody ms 1).length=9+(wbody ms 1).length:=by rw[List.length_append];rfl
 have hbl:∀(l:List (List Nat)) (n:Nat),l.length≤(wbody l n).length:=by
  intro l
  induction l with
  |nil=>intro n;exact Nat.zero_le _
  |cons x l ih =>
   intro n
   have:=ih (n+1)
   rw[wbody,List.length_append]
   have h1:1≤(wobj n x).length:=by unfold wobj;simp only[List.length_append,List.length_cons];omega
   simp only[List.length_cons];omega
 have ho:=obw (wfile ms (k:Int)).length rest ms ys 0 ((wbody ms 1++([120,114,101,102]++rest)).length+2) 9 h (by have:=hbl ms 1;simp only[List.length_append];omega) hlen
 unfold document
 rw[hw,ta]
 simp only[]
 rw[sw,←hw,ho]
 simp only[]
 have hz:(wfile ms (k:Int)).length-([120,114,101,102]++rest).length=(whead++wbody ms 1).length:=by
  rw[hlen,hb9,List.length_append]
  omega
 rw[hz,←hrest,←hl]
 have ht:wtable (wplaces ms 9 1)=wthead ms.length++(wplaces ms 9 1).flatMap wline:=by unfold wtable;rw[wplaces_length]
 rw[ht,List.append_assoc,cw,liw]
 simp only[]
 rw[trw _ _ (by omega) hk]
 simp only[]
 rw[wint_dig,end_w]
end Fo
namespace Fo
def fullA:VT 12:=(⟨7,0,0,[],[],[],[]⟩:Node (VT 11))
def fullB(t:List Nat):VT 12:=(⟨8,0,0,t,[],[],[4,3]⟩:Node (VT 11))
def fullD(n:Nat):Node (VT 11):=⟨7,0,0,[],[(leafN (VT 10) 2 (n:Int) 0 []:VT 11),(⟨6,0,0,[],[(leafN (VT 9) 4 0 0 [70,108,97,116,101,68,101,99,111,100,101]:VT 10),(leafN (VT 9) 4 0 0 [82,117,110,76,101,110,103,116,104,68,101,99,111,100,101]:VT 10)],[],[]⟩:Node (VT 10))],[[76,101,110,103,116,104],[70,105,108,116,101,114]],[]⟩
theorem fullA_tells:OT (wv (k:=12) fullA) (fullA,[]):=by
 intro r
 have e:wv (k:=12) fullA=[60,60,62,62]:=rfl
 rw[e]
 have hv:value 12 (10::([60,60,62,62]++(10::([101,110,100,111,98,106]++(10::r)))))=some (fullA,10::([101,110,100,111,98,106]++(10::r))):=by
  rw[whv rfl]
  exact vd (k:=11) (m:=0) (x:=([],[])) ⟨_,rfl⟩ (fun d=>de _ _)
 unfold objVal
 rw[hv]
 simp only[]
 rw[if_pos (by rfl),tWw rfl,tWo (pL (by simp) (by decide)) (NP.cons (by decide)) (by decide)]
theorem fullD_wv(n:Nat):wv (k:=12) (fullD n)=[60,60,47]++([76,101,110,103,116,104]++(32::(dig n++(32::47::([70,105,108,116,101,114]++(32::91::47::([70,108,97,116,101,68,101,99,111,100,101]++(32::47::([82,117,110,76,101,110,103,116,104,68,101,99,111,100,101]++[93,62,62]))))))))):=by
 have e:wv (k:=12) (fullD n)=[60,60]++((wname [76,101,110,103,116,104]++(32::wint (n:Int)))++((32::(wname [70,105,108,116,101,114]++(32::(91::((wname [70,108,97,116,101,68,101,99,111,100,101]++((32::wname [82,117,110,76,101,110,103,116,104,68,101,99,111,100,101])++[]))++[93])))))++[])++[62,62]):=rfl
 have k1:wname [76,101,110,103,116,104]=[47,76,101,110,103,116,104]:=by decide
 have k2:wname [70,105,108,116,101,114]=[47,70,105,108,116,101,114]:=by decide
 have k3:wname [70,108,97,116,101,68,101,99,111,100,101]=[47,70,108,97,116,101,68,101,99,111,100,101]:=by decide
 have k4:wname [82,117,110,76,101,110,103,116,104,68,101,99,111,100,101]=[47,82,117,110,76,101,110,103,116,104,68,101,99,111,100,101]:=by decide
 rw[e,k1,k2,k3,k4,wint_dig]
 simp
theorem fullD_of(t:List Nat)(n:Nat):sdict 9 (fullB t) n=fullD n:=rfl
theorem fDs(n:Nat):streamOf (k:=11) (fullD n)=some (⟨8,0,0,[],[],[],[4,3]⟩:Node (VT 11)):=by rfl
theorem fDi(n:Nat):itemOf { data:=#[76,101,110,103,116,104] } 2 (fullD n)=some (leafN (VT 10) 2 (n:Int) 0 []:VT 11):=by rfl
theorem fDv(n:Nat)(hn:n<10^10)(r:List Nat):value 12 (wv (k:=12) (fullD n)++r)=some (fullD n,r):=by
 rw[fullD_wv]
 simp only[List.append_assoc]
 rw[show([60,60,47]:List Nat)++([76,101,110,103,116,104]++((32::(dig n++(32::47::([70,105,108,116,101,114]++(32::91::47::([70,108,97,116,101,68,101,99,111,100,101]++(32::47::([82,117,110,76,101,110,103,116,104,68,101,99,111,100,101]++[93,62,62]))))))))++r))=60::60::47::([76,101,110,103,116,104]++(32::(dig n++(32::47::([70,105,108,116,101,114]++(32::91::47::([70,108,97,116,101,68,101,99,111,100,101]++(32::47::([82,117,110,76,101,110,103,116,104,68,101,99,111,100,101]++(93::62::62::r))))))))))by simp]
 have n1:name ([76,101,110,103,116,104]++(32::(dig n++(32::47::([70,105,108,116,101,114]++(32::91::47::([70,108,97,116,101,68,101,99,111,100,101]++(32::47::([82,117,110,76,101,110,103,116,104,68,101,99,111,100,101]++(93::62::62::r))))))))))=some ([76,101,110,103,116,104],_):=nap (by decide) (NP.cons (by decide))
 have v1:value 11 (32::(dig n++(32::47::([70,105,108,116,101,114]++(32::91::47::([70,108,97,116,101,68,101,99,111,100,101]++(32::47::([82,117,110,76,101,110,103,116,104,68,101,99,111,100,101]++(93::62::62::r)))))))))=some ((leafN (VT 10) 2 (n:Int) 0 []:VT 11),32::47::([70,105,108,116,101,114]++(32::91::47::([70,108,97,116,101,68,101,99,111,100,101]++(32::47::([82,117,110,76,101,110,103,116,104,68,101,99,111,100,101]++(93::62::62::r))))))):=by
  rw[whv rfl]
  exact vi (dip _) (NP.cons (by decide)) (whd hn) (by rw[nRw rfl];exact nRm (by decide) (by decide) (by decide))
 have n2:name ([70,105,108,116,101,114]++(32::91::47::([70,108,97,116,101,68,101,99,111,100,101]++(32::47::([82,117,110,76,101,110,103,116,104,68,101,99,111,100,101]++(93::62::62::r))))))=some ([70,105,108,116,101,114],_):=nap (by decide) (NP.cons (by decide))
 have v2:value 11 (32::91::47::([70,108,97,116,101,68,101,99,111,100,101]++(32::47::([82,117,110,76,101,110,103,116,104,68,101,99,111,100,101]++(93::62::62::r)))))=some ((⟨6,0,0,[],[(leafN (VT 9) 4 0 0 [70,108,97,116,101,68,101,99,111,100,101]:VT 10),(leafN (VT 9) 4 0 0 [82,117,110,76,101,110,103,116,104,68,101,99,111,100,101]:VT 10)],[],[]⟩:Node (VT 10)),62::62::r):=by kernel_rfl
 refine vd (k:=11) (m:=2) (x:=([[76,101,110,103,116,104],[70,105,108,116,101,114]],[(leafN (VT 10) 2 (n:Int) 0 []:VT 11),(⟨6,0,0,[],[(leafN (VT 9) 4 0 0 [70,108,97,116,101,68,101,99,111,100,101]:VT 10),(leafN (VT 9) 4 0 0 [82,117,110,76,101,110,103,116,104,68,101,99,111,100,101]:VT 10)],[],[]⟩:Node (VT 10))])) ⟨_,(Nat.sub_add_cancel (by simp only[List.length_cons,List.length_append];omega)).symm⟩ (fun d=>?_)
 rw[ds_ n1 v1]
 have hg:=dg (α:=VT 11) (f:=value 11) (Gap.white (b:=32) rfl) (d+1) (47::([70,105,108,116,101,114]++(32::91::47::([70,108,97,116,101,68,101,99,111,100,101]++(32::47::([82,117,110,76,101,110,103,116,104,68,101,99,111,100,101]++(93::62::62::r)))))))
 rw[List.singleton_append]at hg
 rw[show d+2=d+1+1 from rfl,hg,ds_ n2 v2,de]
 rfl
theorem fullB_tells(t d:List Nat)(hd:d.length<10^10):OT (wstream 9 (fullB t) d) ((⟨8,0,0,[],[],[],[4,3]⟩:Node (VT 11)),d):=by
 intro r
 have e:10::(wstream 9 (fullB t) d++(10::([101,110,100,111,98,106]++(10::r))))=10::(wv (k:=12) (fullD d.length)++(10::([115,116,114,101,97,109]++(10::(d++(10::([101,110,100,115,116,114,101,97,109]++(10::([101,110,100,111,98,106]++(10::r)))))))))):=by
  unfold wstream
  rw[fullD_of]
  simp
 rw[e]
 unfold objVal
 rw[whv rfl,fDv _ hd]
 simp only[]
 rw[if_pos (by rfl),tWw rfl,taWw (pL (by simp) (by decide)) (NP.cons (by decide))]
 simp only[]
 unfold stream
 have t1:takes [10] (10::(d++(10::([101,110,100,115,116,114,101,97,109]++(10::([101,110,100,111,98,106]++(10::r)))))))=some (d++(10::([101,110,100,115,116,114,101,97,109]++(10::([101,110,100,111,98,106]++(10::r)))))):=ta [10] _
 rw[t1]
 simp only[Option.some_or]
 rw[fDi]
 simp only[]
 have hn:nOf (k:=11) (leafN (VT 10) 2 (d.length:Int) 0 [])=(d.length:Int):=rfl
 rw[hn,if_pos (by rw[List.length_append];omega),Int.toNat_natCast,List.drop_left,List.take_left]
 have t2:takes [10] (10::([101,110,100,115,116,114,101,97,109]++(10::([101,110,100,111,98,106]++(10::r)))))=some ([101,110,100,115,116,114,101,97,109]++(10::([101,110,100,111,98,106]++(10::r)))):=ta [10] _
 rw[t2]
 simp only[]
 obtain⟨p1,p2⟩:=tWp (s:=[101,110,100,115,116,114,101,97,109]) (r:=10::([101,110,100,111,98,106]++(10::r))) (by decide) (NP.cons (by decide))
 rw[p1,p2,if_pos rfl,fDs]
 rfl
end Fo
section
variable{w w':World}
def FdR(w:World)(res:Except Nat (List Nat))(e:Ending)(w':World):Prop:=match res with
 | .ok l=>∃ v,e=.returned v∧w'.ownsRow w.heap.size 5 1 v l.length (byv l)∧Below w.heap.size w w'
 | .error n=>e=gU n∧Below w.heap.size w w'
structure DecBy(D:Nat→Nat→List Nat→Except Nat (List Nat)→Prop)(Q:World→Prop):Prop where
 call:∀(w:World) (v:Value) (f most:Nat) (d:List Nat) (res:Except Nat (List Nat)),FilOk f→Byts w v d→most≤1000000→Q w→D f most d res→Calls Tryz.prog 80 #[.int .i64 f,v,.int .i64 most] w (FdR w res)
 keep:∀(w w':World),Q w→Below w.heap.size w w'→Q w'
 byt:∀(f most:Nat) (d l:List Nat),D f most d (.ok l)→∀ x∈l,x<256
def UnpTo(D:Nat→Nat→List Nat→Except Nat (List Nat)→Prop):List Nat→List Nat→Nat→Except Nat (List Nat)→Prop
 | [],d,most,res=>res=(if d.length≤most then(if d.length≤20000 then .ok d else .error 4)else .error 6)
 |f::fs,d,most,res=>(∃ m,D f most d (.ok m)∧UnpTo D fs m most res)∨(∃ n,D f most d (.error n)∧res=.error n)
def UnpR(w:World)(res:Except Nat (List Nat))(e:Ending)(w':World):Prop:=Below w.heap.size w w'∧match res with
 | .ok l=>e=.returned (.string (strN l))
 | .error n=>e=gU n
theorem UnpR.ok_{res:Except Nat (List Nat)}{l:List Nat}(b:Below w.heap.size w w')(h:res=.ok l):UnpR w res (.returned (.string (strN l))) w':=by subst h;exact⟨b,rfl⟩
theorem UnpR.no_{res:Except Nat (List Nat)}{n:Nat}(b:Below w.heap.size w w')(h:res=.error n):UnpR w res (gU n) w':=by subst h;exact⟨b,rfl⟩
theorem uo{D:Nat→Nat→List Nat→Except Nat (List Nat)→Prop}{Q:World→Prop}(hD:DecBy D Q){fa:Option Addr}{fc most:Nat}{fs:List Fil}{pv:Value}{d:List Nat}{res:Except Nat (List Nat)}(hfs:FilsAt w.heap.size w (.slice fa fs.length fc) fs)(hfl:fs.length≤1000000)(hp:Byts w pv d)(hm:most≤1000000)(hQ:Q w)(hU:UnpTo D (fs.map fun x=>x.1) d most res) :
  Calls Tryz.prog 100 #[.slice fa fs.length fc,pv,.int .i64 (most:Nat)] w (UnpR w res):=by
 have HD:=hide hD
 have HFS:=hide hfs
 have HP:=hide hp
 have HQ:=hide hQ
 have HU:=hide hU
 obtain⟨N,hN⟩:∃ N,fs.length=N:=⟨_,rfl⟩
 have HN:=hide hN
 rw[hN]at hfl ⊢
 rw[hN]at HFS
 clear hD hfs hp hQ hU hN
 go_enter Tryz.func100,Tryz.ntmps100
 go_wp2
 go_loopw [7,13] (fun v iv wr=>∃(m:Nat) (c:List Nat),m≤N∧iv=.int .i64 (m:Int)∧Hid (Byts wr v c)∧Hid (Below w.heap.size w wr)∧Hid (Q wr)∧Hid (UnpTo D ((fs.drop m).map fun x=>x.1) c most res)) (fun _ iv _=>N-(intOf iv).toNat)
 case atStart=>exact⟨0,d,Nat.zero_le _,rfl,HP,Below.refl _ _,HQ,HU⟩
 case round =>
  obtain⟨m,c,hm2,rfl,HB,HW,HQR,HUR⟩:=hrel
  obtain⟨va,vc,hva,_⟩:=HB.o.sl
  subst hva
  rcases Nat.eq_or_lt_of_le hm2 with hm2 | hm2
  ·subst hm2
   have hu:=HUR.o
   rw[List.drop_of_length_le (by rw[HN.o];exact Nat.le_refl _)]at hu
   have hu:res=(if c.length≤most then(if c.length≤20000 then .ok c else .error 4)else .error 6):=hu
   obtain⟨L,hL⟩:∃ L,L=c.length:=⟨_,rfl⟩
   have HL:=hide hL
   rw[←hL]at hu ⊢
   by_cases h1:L≤most
   ·rw[if_pos h1]at hu
    by_cases h2:L≤20000
    ·rw[if_pos h2]at hu
     have HRS:=hide hu
     have hcv:(convert 23 9 (.slice va L vc)).run Tryz.prog wr=.ok (.string (strN c)) wr:=by
      obtain⟨⟨ao,cap,e,hd,_⟩,_⟩:=HB.o
      cases e
      rw[hL]
      exact cd0 hd
     clear hu hL
     go_wp2_with (first | (go_at_call 63;refine(wiy _ _ _ _ (by omega) (by omega)).mono ?_;rintro e w' ⟨rfl,hw⟩;have hw:=hw.symm;subst hw) | (go_at_call 63;refine(win _ _ _ _ (by omega)).mono ?_;rintro e w' ⟨rfl,hw⟩;have hw:=hw.symm;subst hw))
     refine(smy _).mono ?_
     rintro e w' ⟨rfl,hw⟩
     have hw:=hw.symm
     subst hw
     go_wp2
     go_ret
     exact .ok_ HW.o HRS.o
    ·rw[if_neg h2]at hu
     have HRS:=hide hu
     clear hu hL
     go_wp2_with (first | (go_at_call 63;refine(wiy _ _ _ _ (by omega) (by omega)).mono ?_;rintro e w' ⟨rfl,hw⟩;have hw:=hw.symm;subst hw) | (go_at_call 63;refine(win _ _ _ _ (by omega)).mono ?_;rintro e w' ⟨rfl,hw⟩;have hw:=hw.symm;subst hw))
     refine(sn _).mono ?_
     rintro e w' ⟨rfl,hw⟩
     have hw:=hw.symm
     subst hw
     exact⟨rfl,.no_ HW.o HRS.o⟩
   ·rw[if_neg h1]at hu
    have HRS:=hide hu
    clear hu hL
    go_wp2_with (first | (go_at_call 63;refine(wiy _ _ _ _ (by omega) (by omega)).mono ?_;rintro e w' ⟨rfl,hw⟩;have hw:=hw.symm;subst hw) | (go_at_call 63;refine(win _ _ _ _ (by omega)).mono ?_;rintro e w' ⟨rfl,hw⟩;have hw:=hw.symm;subst hw))
    exact⟨rfl,.no_ HW.o HRS.o⟩
  ·obtain⟨x,hx⟩:∃ x,fs[m]?.getD Fil.one=x:=⟨_,rfl⟩
   have hlt:m<fs.length:=by rw[HN.o];exact hm2
   have hdr:fs.drop m=x::fs.drop (m+1):=by
    rw[List.drop_eq_getElem_cons hlt]
    rw[List.getElem?_eq_getElem hlt]at hx
    simp at hx
    rw[hx]
   have hfa:∃ b,fa=some ⟨b,0,none⟩∧wr.cell? ⟨b,m,none⟩=some (.int .i64 (x.1:Nat)):=by
    rcases HFS.o.below HW.o with⟨h1,h2⟩ | ⟨b,cap,h1,h2,h3⟩
    ·rw[h2]at hlt;simp at hlt
    ·cases h1
     refine⟨b,rfl,?_⟩
     rw[h3 m hlt,hx]
   obtain⟨b,rfl,hc⟩:=hfa
   have hu:=HUR.o
   rw[hdr]at hu
   clear hx hdr hlt
   rcases hu with⟨t,h1,h2⟩ | ⟨n,h1,h2⟩
   ·have HC:=hide (HD.o.call wr _ x.1 most c _ x.2 HB.o hm HQR.o h1)
    have HU2:=hide h2
    have HBT:Hid (∀ y∈t,y<256):=HD.o.byt _ _ _ _ h1
    clear h1 h2
    go_wp2_with fail
    refine HC.o.mono ?_
    rintro e w1 ⟨v1,rfl,own1,b1⟩
    obtain⟨va1,vc1,hv1⟩:=ows own1
    subst hv1
    have HB1:=hide (Byts.own own1 HBT.o)
    have HW1:=hide (HW.o.trans (b1.mono HW.o.size))
    have HQ1:=hide (HD.o.keep _ _ HQR.o b1)
    clear own1 b1 HC
    go_wp2
    go_roundw
    case rel=>exact⟨m+1,t,by omega,by first | rfl | (congr 1),HB1,HW1,HQ1,HU2⟩
    case measure=>simp[intOf];omega
   ·have HC:=hide (HD.o.call wr _ x.1 most c _ x.2 HB.o hm HQR.o h1)
    have HRS:=hide h2
    clear h1 h2
    go_wp2_with fail
    refine HC.o.mono ?_
    rintro e w1 ⟨rfl,b1⟩
    exact⟨rfl,.no_ (HW.o.trans (b1.mono HW.o.size)) HRS.o⟩
def sT{k:Nat}(y:VT (k+1))(t:List Nat):VT (k+1):=({ (show Node (VT k)from y)with text:=t }:Node (VT k))
theorem fls{a0 a1 a2 a3 a4 a5 a6 s:Value}:∀(xs:List Value) (m:Nat),(∀ x∈xs,(cellsOf x).length=7)→xs[m]?=some (.agg #[a0,a1,a2,a3,a4,a5,a6])→(xs.set m (.agg #[a0,a1,a2,s,a4,a5,a6])).flatMap cellsOf=(xs.flatMap cellsOf).set (m*7+3) s
 | [],m,_,h=>by simp at h
 |x::xs,0,_,h=>by
  simp at h
  subst h
  rfl
 |x::xs,m+1,hl,h=>by
  have h7:=hl x (List.mem_cons_self ..)
  have ih:=fls (s:=s) xs m (fun y hy=>hl y (List.mem_cons_of_mem _ hy)) (by simpa using h)
  rw[List.set_cons_succ,List.flatMap_cons,List.flatMap_cons,ih,List.set_append_right _ _ (by rw[h7];omega),h7]
  congr 2
  omega
theorem VIn.text{P:Nat→Prop}{k:Nat}{v:Value}{y:VT (k+1)}(h:VIn P (k+1) w v y)(t:List Nat):∃ a0 a1 a2 a3 a4 a5 a6,v=.agg #[a0,a1,a2,a3,a4,a5,a6]∧VIn P (k+1) w (.agg #[a0,a1,a2,.string (strN t),a4,a5,a6]) (sT y t):=by
 obtain⟨iv,kv,fv,vs,h1,h2,h3,h4,h5,h6⟩:=h
 exact⟨_,_,_,_,_,_,_,h1,iv,kv,fv,vs,rfl,h2,h3,h4,h5,h6⟩
theorem Vals.text{P:Nat→Prop}{k b g n c:Nat}{Ys:List (VT (k+1))}(h:Vals P (k+1) b Ys w (.slice (some ⟨g,0,none⟩) n c)){m:Nat}{y:VT (k+1)}(hy:Ys[m]?=some y)(hP:∀ g',P g'→g'≠g)(t:List Nat) :
  Vals P (k+1) b (Ys.set m (sT y t)) (w.setCell ⟨g,m*7+3,none⟩ (.string (strN t))) (.slice (some ⟨g,0,none⟩) n c):=by
 obtain⟨xs,h1,h2,h3⟩:=h
 have hm:=(List.getElem?_eq_some_iff.1 hy).1
 obtain⟨x,hx⟩:∃ x,xs[m]?=some x:=⟨_,List.getElem?_eq_getElem (by omega)⟩
 have hx3:=h3 m x y hx hy
 obtain⟨a0,a1,a2,a3,a4,a5,a6,hxe,hnew⟩:=hx3.text t
 subst hxe
 have h7:∀ x∈xs,(cellsOf x).length=7:=fun x hx=>by
  obtain⟨j,hj,hjx⟩:=List.getElem_of_mem hx
  obtain⟨y,hy⟩:∃ y,Ys[j]?=some y:=⟨_,List.getElem?_eq_getElem (by omega)⟩
  exact(h3 j x y (by rw[List.getElem?_eq_getElem hj,hjx]) hy).cells.1
 have hk:∀ g',P g'→g'<w.heap.size→(w.setCell ⟨g,m*7+3,none⟩ (.string (strN t))).heap[g']?=w.heap[g']?:=fun g' hp _=>bsCn _ (hP g' hp)
 refine⟨xs.set m (.agg #[a0,a1,a2,.string (strN t),a4,a5,a6]),?_,by rw[List.length_set,List.length_set,h2],fun i x' y' hx' hy'=>?_⟩
 ·rw[List.length_set,fls xs m h7 hx]
  obtain⟨l1,l2⟩:=h1
  refine⟨by rw[List.length_set];exact l1,?_⟩
  rcases l2 with⟨e,_⟩ | ⟨g',c',cur,e,hb,hh,hn,hc,hs,ht⟩
  ·cases e
  ·cases e
   refine Or.inr ⟨g,c,cur.setIfInBounds (m*7+3) (.string (strN t)),rfl,hb,by rw[bsC _ hh],hn,hc,by rw[Array.size_setIfInBounds];exact hs,?_⟩
   rw[Array.toList_setIfInBounds,←ht,List.take_set]
 ·by_cases c:i=m
  ·subst c
   rw[List.getElem?_set_self (by omega)]at hx'
   rw[List.getElem?_set_self hm]at hy'
   cases hx'
   cases hy'
   exact VIn.keep (k+1) hnew hk
  ·rw[List.getElem?_set_ne (Ne.symm c)]at hx' hy'
   exact VIn.keep (k+1) (h3 i x' y' hx' hy') hk
def UA(D:Nat→Nat→List Nat→Except Nat (List Nat)→Prop):List (VT 12 × List Nat)→Nat→Except Nat (List (VT 12))→Prop
 | [],_,res=>res=.ok []
 |x::l,most,res =>
  (Node.kind (α:=VT 11) x.1≠8∧∃ r,UA D l most r∧res=r.map (x.1 :: ·)) ∨
  (Node.kind (α:=VT 11) x.1=8∧((∃ t r,UnpTo D (Node.filters (α:=VT 11) x.1) x.2 most (.ok t)∧UA D l (most-t.length) r∧res=r.map (sT (k:=11) x.1 t :: ·))∨(∃ n,UnpTo D (Node.filters (α:=VT 11) x.1) x.2 most (.error n)∧res=.error n)))
theorem UnpTo.le{D:Nat→Nat→List Nat→Except Nat (List Nat)→Prop}:∀(fs d:List Nat) (most:Nat) (t:List Nat),UnpTo D fs d most (.ok t)→t.length≤most
 | [],d,most,t,h=>by
  unfold UnpTo at h
  split at h
  ·split at h
   ·cases h;assumption
   ·cases h
  ·cases h
 |f::fs,d,most,t,h=>by
  rcases h with⟨m,_,h⟩ | ⟨n,_,h⟩
  ·exact UnpTo.le fs m most t h
  ·cases h
def RdS(w:World)(res:Except Nat (List (VT 12)))(root:Int)(e:Ending)(w':World):Prop:=
 Below w.heap.size w w'∧match res with
  | .ok Vs=>∃ ov,e=.returned (.agg #[ov,.int .i64 root])∧Vals (fun g=>w.heap.size≤g) 12 w.heap.size Vs w' ov
  | .error n=>e=gU n
theorem RdS.no_{res:Except Nat (List (VT 12))}{root:Int}{n:Nat}(b:Below w.heap.size w w')(h:res=.error n):RdS w res root (gU n) w':=by subst h;exact⟨b,rfl⟩
theorem RdS.ok_{res:Except Nat (List (VT 12))}{Vs:List (VT 12)}{root:Int}{ov:Value}(b:Below w.heap.size w w')(h:res=.ok Vs)(hv:Vals (fun g=>w.heap.size≤g) 12 w.heap.size Vs w' ov):RdS w res root (.returned (.agg #[ov,.int .i64 root])) w':=by subst h;exact⟨b,_,rfl,hv⟩
end
end Go.Proofs.YtgkljcmjnphpeaaGreatDoor
