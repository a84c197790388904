import Derived.Test.YtgkljcmjnphpeaaGreatDoorK00
import Derived.Deep.RegionLaw
set_option linter.unusedVariables false
set_option linter.unusedSimpArgs false
namespace Go
section
theorem sao{P:Program}{w:World}{ops:Array Oper}{o:Oper}{a:Act}{K:Act→World→Prop}{Q:Exit→Act→World→Prop}{E:Prop}(hgd:o.guard=none)(s x:Operand)(t:TypeId)
  (ho:o.op=.call { callee:=.builtin .append,args:=#[s,x],argTypes:=#[t,t] })
  (base:Nat) (e:TypeId) (i:TypeInfo) (z:Value) (size bytes:Nat) (ht:P.underlying t=some (.slice e)) (hi:P.info? e=some i) (hz:i.zero=some z)
  (hsize:i.size=size) (hby:i.bytes=bytes) (hzs:z.cells.size=size) (hsz:0<size)
  (v:Value) (n:Nat) (xs:List Value) (hs:a.eval s=v) (hown:w.ownsRow base e size v n xs)
  (ad:Addr) (m c:Nat) (news:List Value) (hx:a.eval x=.slice (some ad) m c) (hl:news.length=m*size) (hnews:∀ j u,news[j]?=some u→w.cell? (ad.add j)=some u) (h1:∀ u∈news,u.oneCell'=true)
  (h63:n+m≤maxLen) (hbytes:(n+m)*bytes≤140737488355328) (hbase:base≤w.heap.size)
  (h:∀ v' w',w'.ownsRow base e size v' (n+m) (xs++news)→w.grownBy w' v.ownBlock→(v'=.slice none 0 0↔v=.slice none 0 0∧m=0)→K (a.put o.dst v') w') :
  if Region.wanted o (yielded ops a.tmps)=true then Oper.wp P o a w K Q else E:=by
 have hw:Region.wanted o (yielded ops a.tmps)=true:=by simp[Region.wanted,hgd]
 rw[if_pos hw]
 exact wp_append_own w s x t ho base e i z size bytes ht hi hz hsize hby hzs hsz v n xs hs hown ad m c news hx hl hnews h1 h63 hbytes hbase h
section
variable{P:Program}{w:World}
theorem aa(g j:Nat):(⟨g,0,none⟩:Addr).add j=⟨g,j,none⟩:=by unfold Addr.add;split<;>simp_all
theorem rak(base:Nat)(t ty e:TypeId)(i:TypeInfo)(z:Value)(size bytes:Nat)(ht:P.underlying t=some (.slice e))(hi:P.info? e=some i)(hz:i.zero=some z)
  (hsize:i.size=size) (hby:i.bytes=bytes) (hzs:z.cells.size=size) (hsz:0<size)
  (g n cap:Nat) (xs:List Value) (hown:w.ownsRow base e size (.slice (some ⟨g,0,none⟩) n cap) n xs)
  (a:Addr) (m c:Nat) (news:List Value) (hl:news.length=m*size) (hnews:∀ j u,news[j]?=some u→w.cell? (a.add j)=some u) (h1:∀ u∈news,u.oneCell'=true)
  (h63:n+m≤maxLen) (hbytes:(n+m)*bytes≤140737488355328) (hbase:base≤w.heap.size) :
  ∃ v' w',(Builtin.append_ #[t,t] ty #[.slice (some ⟨g,0,none⟩) n cap,.slice (some a) m c]).run P w=.ok v' w'∧w'.ownsRow base e size v' (n+m) (xs++news)∧w.grownBy w' (some g) ∧
   (∀ j u,xs[j]?=some u→w'.cell? ⟨g,j,none⟩=some u):=by
 obtain⟨v',w',hr,h2,h3,_⟩:=run_append_own (P:=P) w base t ty e i z size bytes ht hi hz hsize hby hzs hsz _ n xs hown a m c news hl hnews h1 h63 hbytes hbase
 refine⟨v',w',hr,h2,h3,?_⟩
 have hsmall:n+m≤9223372036854775807:=by simp only[maxLen]at h63;omega
 have hlt:g<w.heap.size:=(hown.lt g rfl).2
 subst hsize
 rcases hown.2 with⟨h0,_⟩ | ⟨g',cap',cur,hv,_,hg,_,_,hcs,_⟩
 ·cases h0
 cases hv
 intro j u hu
 by_cases hroom:n+m≤cap
 ·have hfit:n*i.size+news.length≤cur.size:=by rw[hl,hcs,←Nat.add_mul];exact Nat.mul_le_mul_right _ hroom
  have hr2:=run_append_room (P:=P) w t ty e i ht hi g n cap cur hg a m c news hl hnews h1 hroom hfit
  rw[hr]at hr2
  injection hr2 with e1 e2
  subst e1
  have:=h2.cells (g:=g) rfl j u (by rw[List.getElem?_append_left (List.getElem?_eq_some_iff.1 hu).1];exact hu)
  rwa [aa]at this
 ·subst hby
  have holds:∀ j u,xs[j]?=some u→w.cell? ((⟨g,0,none⟩:Addr).add j)=some u:=hown.cells (g:=g) rfl
  have hr2:=run_append_grow (P:=P) w t ty e i z ht hi hz ⟨g,0,none⟩ n cap xs hown.1 holds a m c news hl hnews (by omega) (by omega) (growslice_fits (by omega) hbytes)
  rw[hr]at hr2
  injection hr2 with e1 e2
  subst e2
  rw[World.cell?_alloc_lt _ _ _ (by show g<w.drew.heap.size;simpa using hlt)]
  have:=holds j u hu
  rwa [aa]at this
theorem sak{ops:Array Oper}{o:Oper}{a:Act}{K:Act→World→Prop}{Q:Exit→Act→World→Prop}{E:Prop}(hgd:o.guard=none)(s x:Operand)(t:TypeId)
  (ho:o.op=.call { callee:=.builtin .append,args:=#[s,x],argTypes:=#[t,t] })
  (base:Nat) (e:TypeId) (i:TypeInfo) (z:Value) (size bytes:Nat) (ht:P.underlying t=some (.slice e)) (hi:P.info? e=some i) (hz:i.zero=some z)
  (hsize:i.size=size) (hby:i.bytes=bytes) (hzs:z.cells.size=size) (hsz:0<size)
  (g n cap:Nat) (xs:List Value) (hs:a.eval s=.slice (some ⟨g,0,none⟩) n cap) (hown:w.ownsRow base e size (.slice (some ⟨g,0,none⟩) n cap) n xs)
  (ad:Addr) (m c:Nat) (news:List Value) (hx:a.eval x=.slice (some ad) m c) (hl:news.length=m*size) (hnews:∀ j u,news[j]?=some u→w.cell? (ad.add j)=some u) (h1:∀ u∈news,u.oneCell'=true)
  (h63:n+m≤maxLen) (hbytes:(n+m)*bytes≤140737488355328) (hbase:base≤w.heap.size)
  (h:∀ v' w',w'.ownsRow base e size v' (n+m) (xs++news)→w.grownBy w' (some g)→(∀ j u,xs[j]?=some u→w'.cell? ⟨g,j,none⟩=some u)→K (a.put o.dst v') w') :
  if Region.wanted o (yielded ops a.tmps)=true then Oper.wp P o a w K Q else E:=by
 have hw:Region.wanted o (yielded ops a.tmps)=true:=by simp[Region.wanted,hgd]
 rw[if_pos hw]
 obtain⟨v',w',hr,h2,h3,h4⟩:=rak (P:=P) (w:=w) base t o.type e i z size bytes ht hi hz hsize hby hzs hsz g n cap xs hown ad m c news hl hnews h1 h63 hbytes hbase
 unfold Oper.wp execOp
 simp only[ho,resolve,invoke,builtin,Sem.run_bind,Sem.run_pure,Result.andThen_ok,List.map_toArray,List.map_cons,List.map_nil,hs,hx,hr]
 exact h v' w' h2 h3 h4
end
end
section
open Go.RowKit
theorem wrin(n:Nat)(h:n<2^63):IntKind.i64.wrap (n:Int)=n:=by
 rw[IntKind.wrap_i64];omega
theorem oIi(a:Nat)(ha:a<2^63):(BitVec.ofInt 64 (a:Int)).toNat=a:=by
 rw[BitVec.ofInt_natCast,BitVec.toNat_ofNat];omega
theorem ion(a b:Nat)(ha:a<2^63)(hb:b<2^63):bits .or .i64 (a:Int) (b:Int)=((a ||| b:Nat):Int):=by
 show IntKind.i64.wrap ((BitVec.ofInt 64 (a:Int) ||| BitVec.ofInt 64 (b:Int)).toNat:Int)=_
 rw[BitVec.toNat_or,oIi a ha,oIi b hb,wrin _ (Nat.or_lt_two_pow ha hb)]
theorem ian(a b:Nat)(ha:a<2^63)(hb:b<2^63):bits .and .i64 (a:Int) (b:Int)=((a &&& b:Nat):Int):=by
 show IntKind.i64.wrap ((BitVec.ofInt 64 (a:Int) &&& BitVec.ofInt 64 (b:Int)).toNat:Int)=_
 rw[BitVec.toNat_and,oIi a ha,oIi b hb,wrin _ (Nat.lt_of_le_of_lt Nat.and_le_left ha)]
theorem ol_(x y i:Nat)(hx:x<2^i):x ||| y*2^i=x+y*2^i:=by
 rw[Nat.or_comm,Nat.mul_comm,←Nat.two_pow_add_eq_or_of_lt hx,Nat.add_comm]
theorem wrn(n:Nat)(h:n<2^63):wrap64 (n:Int)=n:=by unfold wrap64;omega
end
end Go
namespace Go.Proofs.YtgkljcmjnphpeaaGreatDoor
open Go.RowKit
namespace Fo
def bits8(b:Nat):List Bool:=[b.testBit 0,b.testBit 1,b.testBit 2,b.testBit 3,b.testBit 4,b.testBit 5,b.testBit 6,b.testBit 7]
def bitsOf(l:List Nat):List Bool:=l.flatMap bits8
theorem bil(b:Nat):(bits8 b).length=8:=rfl
theorem bitsOf_cons(b:Nat)(l:List Nat):bitsOf (b::l)=bits8 b++bitsOf l:=by simp[bitsOf]
theorem bitsOf_append(a b:List Nat):bitsOf (a++b)=bitsOf a++bitsOf b:=by simp[bitsOf]
theorem bitsOf_length(l:List Nat):(bitsOf l).length=8*l.length:=by
 induction l with
 |nil=>rfl
 |cons b l ih=>rw[bitsOf_cons,List.length_append,bil,ih,List.length_cons];omega
def val:List Bool→Nat
 | []=>0
 |b::l=>b.toNat+2*val l
def numBits:Nat→Nat→List Bool
 |0,_=>[]
 |n+1,v=>(v%2==1)::numBits n (v/2)
theorem numBits_length(n v:Nat):(numBits n v).length=n:=by
 induction n generalizing v with
 |zero=>rfl
 |succ n ih=>simp[numBits,ih]
theorem val_numBits(n v:Nat):val (numBits n v)=v%2^n:=by
 induction n generalizing v with
 |zero=>simp[numBits,val,Nat.mod_one]
 |succ n ih =>
  simp only[numBits,val,ih]
  rw[Nat.pow_succ,Nat.mul_comm (2^n) 2,Nat.mod_mul]
  rcases Nat.mod_two_eq_zero_or_one v with h | h<;>simp[h]
theorem val_bits8(b:Nat)(h:b<256):val (bits8 b)=b:=by
 have:∀ b:Fin 256,val (bits8 b.val)=b.val:=by decide +kernel
 exact this ⟨b,h⟩
theorem bits8_num(b:Nat):bits8 b=numBits 8 b:=by
 simp only[bits8,numBits,Nat.testBit,Nat.shiftRight_succ,Nat.shiftRight_zero,Nat.one_and_eq_mod_two]
 simp[Nat.div_div_eq_div_mul]
theorem val_lt(l:List Bool):val l<2^l.length:=by
 induction l with
 |nil=>simp[val]
 |cons b l ih =>
  simp only[val,List.length_cons,Nat.pow_succ]
  cases b<;>simp<;>omega
def BW(out:List Nat)(used:Nat)(bs:List Bool):Prop:=
 used<8∧bs.length%8=used∧(∀ x∈out,x<256)∧bitsOf out=bs++List.replicate ((8-used)%8) false
theorem BW.nil:BW [] 0 []:=⟨by omega,rfl,by simp,rfl⟩
theorem BW.bit0{out bs}(h:BW out 0 bs)(b:Bool):BW (out++[b.toNat]) 1 (bs++[b]):=by
 obtain⟨_,h2,h3,h4⟩:=h
 refine⟨by omega,by simp;omega,?_,?_⟩
 ·intro x hx
  rcases List.mem_append.1 hx with hx | hx
  ·exact h3 x hx
  ·simp at hx;subst hx;cases b<;>decide
 ·rw[bitsOf_append,h4]
  cases b<;>simp[bitsOf,bits8,List.replicate]<;>decide
theorem bo0(x u:Nat)(b:Bool)(hu:u<8):bits8 (x ||| (b.toNat <<< u))=(bits8 x).set u (x.testBit u||b):=by
 have hb:∀ i,(b.toNat).testBit i=(b&&decide (i=0)):=by
  intro i;cases b<;>cases i<;>simp[Nat.testBit_succ]
 simp only[bits8,Nat.testBit_or,Nat.testBit_shiftLeft,hb]
 match u,hu with
 |0,_=>simp
 |1,_=>simp
 |2,_=>simp
 |3,_=>simp
 |4,_=>simp
 |5,_=>simp
 |6,_=>simp
 |7,_=>simp
theorem orl(x y:Nat)(hx:x<256)(hy:y<256):x ||| y<256:=Nat.or_lt_two_pow (n:=8) hx hy
theorem BW.bit{pre:List Nat}{last u:Nat}{bs}(h:BW (pre++[last]) u bs)(hu:0<u)(b:Bool):BW (pre++[last ||| (b.toNat <<< u)]) ((u+1)%8) (bs++[b]):=by
 obtain⟨h1,h2,h3,h4⟩:=h
 have hl:=congrArg List.length h4
 rw[bitsOf_append,List.length_append,bitsOf_length,List.length_append,List.length_replicate]at hl
 simp[bitsOf,bits8]at hl
 have hbs:bs=bitsOf pre++bs.drop (8*pre.length):=by
  have h5:=congrArg (List.take (8*pre.length)) h4
  rw[bitsOf_append,List.take_append_of_le_length (by rw[bitsOf_length];omega),List.take_of_length_le (by rw[bitsOf_length];omega),List.take_append_of_le_length (by omega)]at h5
  rw[h5,List.take_append_drop]
 have ht:bits8 last=bs.drop (8*pre.length)++List.replicate (8-u) false:=by
  have h5:=congrArg (List.drop (8*pre.length)) h4
  rw[bitsOf_append,List.drop_left' (by rw[bitsOf_length]),List.drop_append_of_le_length (by omega),show(8-u)%8=8-u by omega]at h5
  simpa[bitsOf]using h5
 have htl:(bs.drop (8*pre.length)).length=u:=by rw[List.length_drop];omega
 refine⟨by omega,by simp;omega,?_,?_⟩
 ·intro x hx
  rcases List.mem_append.1 hx with hx | hx
  ·exact h3 x (List.mem_append_left _ hx)
  ·simp at hx;subst hx
   refine orl _ _ (h3 last (by simp)) ?_
   have:b.toNat≤1:=by cases b<;>decide
   have h7:2^u≤2^7:=Nat.pow_le_pow_right (by omega) (by omega)
   rw[Nat.shiftLeft_eq]
   have h8:b.toNat*2^u≤1*2^u:=Nat.mul_le_mul_right _ this
   omega
 ·rw[hbs,bitsOf_append]
  generalize bs.drop (8*pre.length)=t at *
  have hx:last.testBit u=false:=by
   have h6:=congrArg (fun l=>l[u]?) ht
   simp only[List.getElem?_append_right (Nat.le_of_eq htl),htl,Nat.sub_self]at h6
   match u,hu,h1 with
   |1,_,_=>simpa[bits8]using h6
   |2,_,_=>simpa[bits8]using h6
   |3,_,_=>simpa[bits8]using h6
   |4,_,_=>simpa[bits8]using h6
   |5,_,_=>simpa[bits8]using h6
   |6,_,_=>simpa[bits8]using h6
   |7,_,_=>simpa[bits8]using h6
  have:bitsOf [last ||| (b.toNat <<< u)]=bits8 (last ||| (b.toNat <<< u)):=by simp[bitsOf]
  rw[this,bo0 _ _ _ h1,ht,hx,List.append_assoc,List.append_assoc]
  congr 1
  rw[List.set_append_right _ _ (by omega),htl,Nat.sub_self]
  have e:List.replicate (8-u) false=false::List.replicate (7-u) false:=by rw[show 8-u=(7-u)+1 by omega,List.replicate_succ]
  rw[e,show(8-(u+1)%8)%8=7-u by omega]
  simp
theorem BW.align{out u bs}(h:BW out u bs):BW out 0 (bs++List.replicate ((8-u)%8) false):=by
 obtain⟨h1,h2,h3,h4⟩:=h
 exact⟨by omega,by simp;omega,h3,by simp[h4]⟩
theorem BW.bytes{out bs}(h:BW out 0 bs)(l:List Nat)(hl:∀ x∈l,x<256):BW (out++l) 0 (bs++bitsOf l):=by
 obtain⟨_,h2,h3,h4⟩:=h
 refine⟨by omega,?_,?_,?_⟩
 ·rw[List.length_append,bitsOf_length];omega
 ·intro x hx;rcases List.mem_append.1 hx with hx | hx
  ·exact h3 x hx
  ·exact hl x hx
 ·rw[bitsOf_append,h4];simp
end Fo
namespace Fo
def cO(l:List Nat):List Nat:=(List.range 16).map fun k=>if k=0 then 0 else l.count k
def sO(l:List Nat):List Nat:=(List.range 16).flatMap fun k=>if k=0 then[]else(List.range l.length).filter fun i=>l.getD i 0==k
def symGo(cs ss:List Nat):Nat→Nat→Nat→Nat→Nat→List Bool→Option (Nat × List Bool)
 |0,_,_,_,_,_=>none
 |_+1,_,_,_,_,[]=>none
 |k+1,len,code,first,place,b::r =>
  if 2*code+b.toNat<2*first+cs.getD len 0 then some (ss.getD (place+(2*code+b.toNat)-2*first) 0,r)
  else symGo cs ss k (len+1) (2*code+b.toNat) (2*first+cs.getD len 0) (place+cs.getD len 0) r
def sym(cs ss:List Nat)(r:List Bool):Option (Nat × List Bool):=symGo cs ss 15 1 0 0 0 r
theorem sGa(cs ss:List Nat)(k len code first place:Nat)(r t:List Bool)(s:Nat)(q:List Bool)
  (h:symGo cs ss k len code first place r=some (s,q)):symGo cs ss k len code first place (r++t)=some (s,q++t):=by
 induction k generalizing len code first place r with
 |zero=>simp[symGo]at h
 |succ k ih =>
  cases r with
  |nil=>simp[symGo]at h
  |cons b r =>
   simp only[symGo,List.cons_append]at h ⊢
   by_cases c:2*code+b.toNat<2*first+cs.getD len 0
   ·rw[if_pos c]at h ⊢;simp at h;simp[h.1,h.2]
   ·rw[if_neg c]at h ⊢;exact ih _ _ _ _ _ h
def highBits(v:Nat):Nat→List Bool
 |0=>[]
 |n+1=>(v >>> n%2==1)::highBits v n
def aG(ss:List Nat):List Nat→Nat→Nat→Nat→List (Nat × Nat × Nat)
 | [],_,_,_=>[]
 |c::cs,len,value,place=>((List.range c).map fun i=>(ss.getD (place+i) 0,2*value+i,len))++aG ss cs (len+1) (2*value+c) (place+c)
def assigns(cs ss:List Nat):List (Nat × Nat × Nat):=aG ss cs.tail 1 0 0
def taO(cs ss:List Nat)(n:Nat):List (Nat × Nat):=(assigns cs ss).foldl (fun t x=>t.set x.1 (x.2.1,x.2.2)) (List.replicate n (0,0))
def lensFixed:List Nat:=List.replicate 144 8++List.replicate 112 9++List.replicate 24 7++List.replicate 8 8
def distFixed:List Nat:=List.replicate 32 5
def csF:List Nat:=cO lensFixed
def ssF:List Nat:=sO lensFixed
def cdF:List Nat:=cO distFixed
def sdF:List Nat:=sO distFixed
def tabF:List (Nat × Nat):=taO csF ssF 288
def tadF:List (Nat × Nat):=taO cdF sdF 32
def codeBits(t:List (Nat × Nat))(s:Nat):List Bool:=highBits (t.getD s (0,0)).1 (t.getD s (0,0)).2
theorem fis:∀ s:Fin 288,sym csF ssF (codeBits tabF s.val)=some (s.val,[]):=by decide +kernel
theorem fd:∀ s:Fin 32,sym cdF sdF (codeBits tadF s.val)=some (s.val,[]):=by decide +kernel
theorem syl(s:Nat)(h:s<288)(r:List Bool):sym csF ssF (codeBits tabF s++r)=some (s,r):=by
 have:=sGa _ _ _ _ _ _ _ _ r _ _ (fis ⟨s,h⟩);simpa[sym]using this
theorem syd(s:Nat)(h:s<32)(r:List Bool):sym cdF sdF (codeBits tadF s++r)=some (s,r):=by
 have:=sGa _ _ _ _ _ _ _ _ r _ _ (fd ⟨s,h⟩);simpa[sym]using this
def lenSpan(s:Nat):Nat × Nat:=
 if s=285 then(258,0)else if s-257<8 then(3+(s-257),0)else(3+(4+(s-257)%4)*2^((s-257)/4-1),(s-257)/4-1)
def distSpan(s:Nat):Nat × Nat:=if s<4 then(1+s,0)else(1+(2+s%2)*2^(s/2-1),s/2-1)
def lastSym(f:Nat→Nat × Nat)(v:Nat):Nat→Nat
 |0=>0
 |s+1=>if v<(f (s+1)).1 then lastSym f v s else s+1
def lenSym(v:Nat):Nat:=lastSym lenSpan v 285
def distSym(v:Nat):Nat:=lastSym distSpan v 29
theorem lenSym_ok:∀ v:Fin 256,257≤lenSym (v.val+3)∧lenSym (v.val+3)≤285∧(lenSpan (lenSym (v.val+3))).1≤v.val+3∧v.val+3-(lenSpan (lenSym (v.val+3))).1<2^(lenSpan (lenSym (v.val+3))).2:=by decide +kernel
theorem lSl_(f:Nat→Nat × Nat)(v s:Nat):lastSym f v s≤s:=by
 induction s with
 |zero=>simp[lastSym]
 |succ s ih=>simp only[lastSym];split<;>omega
theorem laSl(f:Nat→Nat × Nat)(v s:Nat)(h0:(f 0).1≤v):(f (lastSym f v s)).1≤v:=by
 induction s with
 |zero=>simpa[lastSym]using h0
 |succ s ih=>simp only[lastSym];split<;>first | exact ih | omega
theorem lSn(f:Nat→Nat × Nat)(v s:Nat):lastSym f v s=s∨v<(f (lastSym f v s+1)).1:=by
 induction s with
 |zero=>simp[lastSym]
 |succ s ih =>
  simp only[lastSym]
  by_cases h:v<(f (s+1)).1
  ·rw[if_pos h]
   rcases ih with ih | ih
   ·right;rw[ih];exact h
   ·right;exact ih
  ·rw[if_neg h];exact Or.inl rfl
theorem dSn:∀ s:Fin 30,(distSpan (s.val+1)).1=(distSpan s.val).1+2^(distSpan s.val).2:=by decide +kernel
theorem distSym_ok(v:Nat)(h1:1≤v)(h2:v≤32768):distSym v≤29∧(distSpan (distSym v)).1≤v∧v-(distSpan (distSym v)).1<2^(distSpan (distSym v)).2:=by
 have a:=lSl_ distSpan v 29
 have b:=laSl distSpan v 29 (by simpa[distSpan]using h1)
 have c:=lSn distSpan v 29
 have d:=dSn ⟨distSym v,by unfold distSym;omega⟩
 have e:v<(distSpan (distSym v+1)).1:=by
  rcases c with c | c
  ·have:distSym v=29:=c
   rw[this];have:(distSpan (29+1)).1=32769:=by decide
   omega
  ·exact c
 simp only[]at d
 exact⟨a,b,by unfold distSym at *;omega⟩
def take(n:Nat)(r:List Bool):Option (Nat × List Bool):=if n≤r.length then some (val (r.take n),r.drop n)else none
theorem tnB(n v:Nat)(r:List Bool)(h:v<2^n):take n (numBits n v++r)=some (v,r):=by
 unfold take
 rw[if_pos (by simp[numBits_length]),List.take_left' (numBits_length n v),List.drop_left' (numBits_length n v),val_numBits,Nat.mod_eq_of_lt h]
def copy(d:Nat):Nat→List Nat→List Nat
 |0,out=>out
 |n+1,out=>copy d n (out++[out.getD (out.length-d) 0])
theorem copy_length(d n:Nat)(out:List Nat):(copy d n out).length=out.length+n:=by
 induction n generalizing out with
 |zero=>rfl
 |succ n ih=>simp[copy,ih];omega
theorem copy_succ(d n:Nat)(out:List Nat):copy d (n+1) out=copy d n out++[(copy d n out).getD ((copy d n out).length-d) 0]:=by
 induction n generalizing out with
 |zero=>rfl
 |succ n ih=>rw[copy,ih,copy]
structure Codes where
 cs:List Nat
 ss:List Nat
 cd:List Nat
 sd:List Nat
def fixedC:Codes:=⟨csF,ssF,cdF,sdF⟩
theorem fixedC_cs:fixedC.cs=csF:=by simp only[fixedC]
theorem fixedC_ss:fixedC.ss=ssF:=by simp only[fixedC]
theorem fixedC_cd:fixedC.cd=cdF:=by simp only[fixedC]
theorem fixedC_sd:fixedC.sd=sdF:=by simp only[fixedC]
def part(c:Codes)(window most:Nat)(r:List Bool)(out:List Nat):Except Nat (Bool × List Bool × List Nat):=
 match sym c.cs c.ss r with
 |none=>.error 5
 |some (s,r) =>
  if s<256 then if out.length+1≤most then .ok (true,r,out++[s])else .error 6
  else if s=256 then .ok (false,r,out)
  else if 285<s then .error 5
  else match take (lenSpan s).2 r with
   |none=>.error 5
   |some (x,r)=>match sym c.cd c.sd r with
    |none=>.error 5
    |some (t,r)=>if 29<t then .error 5 else match take (distSpan t).2 r with
     |none=>.error 5
     |some (y,r) =>
      if(distSpan t).1+y≤out.length∧(distSpan t).1+y≤window then
       if out.length+((lenSpan s).1+x)≤most then .ok (true,r,copy ((distSpan t).1+y) ((lenSpan s).1+x) out)else .error 6
      else .error 5
def lB(b:Nat):List Bool:=codeBits tabF b
def copyBits(n d:Nat):List Bool:=
 codeBits tabF (lenSym n)++(numBits (lenSpan (lenSym n)).2 (n-(lenSpan (lenSym n)).1)++(codeBits tadF (distSym d)++numBits (distSpan (distSym d)).2 (d-(distSpan (distSym d)).1)))
theorem pl0(b window most:Nat)(h:b<256)(r:List Bool)(out:List Nat):part fixedC window most (lB b++r) out=if out.length+1≤most then .ok (true,r,out++[b])else .error 6:=by
 simp[part,fixedC,lB,syl b (by omega) r,h]
theorem pac(n d window most:Nat)(h3:3≤n)(hn:n≤258)(hd:1≤d)(hd2:d≤32768)(r:List Bool)(out:List Nat)(ho:d≤out.length)(hw:d≤window) :
  part fixedC window most (copyBits n d++r) out=if out.length+n≤most then .ok (true,r,copy d n out)else .error 6:=by
 obtain⟨a1,a2,a3,a4⟩:=lenSym_ok ⟨n-3,by omega⟩
 simp only[show n-3+3=n by omega]at a1 a2 a3 a4
 obtain⟨b1,b2,b3⟩:=distSym_ok d hd hd2
 unfold part
 have e1:sym fixedC.cs fixedC.ss (copyBits n d++r)=some (lenSym n,(numBits (lenSpan (lenSym n)).2 (n-(lenSpan (lenSym n)).1)++(codeBits tadF (distSym d)++(numBits (distSpan (distSym d)).2 (d-(distSpan (distSym d)).1)++r)))):=by
  rw[show copyBits n d++r=codeBits tabF (lenSym n)++(numBits (lenSpan (lenSym n)).2 (n-(lenSpan (lenSym n)).1)++(codeBits tadF (distSym d)++(numBits (distSpan (distSym d)).2 (d-(distSpan (distSym d)).1)++r)))by simp[copyBits]]
  rw[fixedC_cs,fixedC_ss];exact syl (lenSym n) (by omega) _
 rw[e1]
 simp only[]
 rw[if_neg (by omega),if_neg (by omega),if_neg (by omega),tnB _ _ _ a4]
 simp only[]
 rw[show sym fixedC.cd fixedC.sd (codeBits tadF (distSym d)++(numBits (distSpan (distSym d)).2 (d-(distSpan (distSym d)).1)++r))=some (distSym d,numBits (distSpan (distSym d)).2 (d-(distSpan (distSym d)).1)++r)from by rw[fixedC_cd,fixedC_sd];exact syd (distSym d) (by omega) _]
 simp only[]
 rw[if_neg (by omega),tnB _ _ _ b3]
 simp only[]
 rw[show(distSpan (distSym d)).1+(d-(distSpan (distSym d)).1)=d by omega,show(lenSpan (lenSym n)).1+(n-(lenSpan (lenSym n)).1)=n by omega,if_pos ⟨ho,hw⟩]
theorem cd_(data:List Nat)(d:Nat):∀(n at_:Nat),1≤d→d≤at_→at_+n≤data.length→(∀ i,i<n→data.getD (at_+i) 0=data.getD (at_-d+i) 0)→copy d n (data.take at_)=data.take (at_+n)
 |0,at_,_,_,_,_=>rfl
 |n+1,at_,h1,h2,h3,h4=>by
  have e:data.take at_++[(data.take at_).getD ((data.take at_).length-d) 0]=data.take (at_+1):=by
   have l:(data.take at_).length=at_:=by rw[List.length_take];omega
   have h5:=h4 0 (by omega)
   simp only[Nat.add_zero]at h5
   rw[l,List.take_succ_eq_append_getElem (by omega)]
   congr 2
   have:data.getD at_ 0=data[at_]:=by rw[List.getD_eq_getElem?_getD,List.getElem?_eq_getElem (by omega)];rfl
   rw[←this,h5]
   simp only[List.getD_eq_getElem?_getD,List.getElem?_take]
   rw[if_pos (by omega)]
  rw[copy,e,cd_ data d n (at_+1) h1 (by omega) (by omega) (fun i hi=>by have:=h4 (i+1) (by omega);rw[show at_+1+i=at_+(i+1)by omega,show at_+1-d+i=at_-d+(i+1)by omega];exact this),show at_+1+n=at_+(n+1)by omega]
def ES(data:List Nat)(k n:Nat)(p:List Bool):Prop:=
 0<n∧k+n≤data.length∧∀ r most,part fixedC 32768 most (p++r) (data.take k)=if k+n≤most then .ok (true,r,data.take (k+n))else .error 6
def Enc(data:List Nat)(k:Nat)(bs:List Bool):Prop:=
 ∀ P:Nat→List Bool→Prop,P 0 []→(∀ k n bs p,P k bs→ES data k n p→P (k+n) (bs++p))→P k bs
theorem Enc.nil{data:List Nat}:Enc data 0 []:=fun _ h _=>h
theorem Enc.step{data:List Nat}{k n:Nat}{bs p:List Bool}(h:Enc data k bs)(hn:0<n)(hk:k+n≤data.length)
  (hp:∀ r most,part fixedC 32768 most (p++r) (data.take k)=if k+n≤most then .ok (true,r,data.take (k+n))else .error 6):Enc data (k+n) (bs++p):=
 fun P h0 h1=>h1 k n bs p (h P h0 h1) ⟨hn,hk,hp⟩
theorem Enc.ind{data:List Nat}{k:Nat}{bs:List Bool}(h:Enc data k bs)(Q:Nat→List Bool→Prop)(h0:Q 0 [])(h1:∀ k n bs p,Enc data k bs→Q k bs→ES data k n p→Q (k+n) (bs++p)):Q k bs:=
 (h (fun k bs=>Enc data k bs∧Q k bs) ⟨Enc.nil,h0⟩ (fun k n bs p hh hs=>⟨hh.1.step hs.1 hs.2.1 hs.2.2,h1 k n bs p hh.1 hh.2 hs⟩)).2
theorem Enc.lit{data:List Nat}{k:Nat}{bs:List Bool}(h:Enc data k bs)(hk:k<data.length)(hb:∀ x∈data,x<256):Enc data (k+1) (bs++lB (data.getD k 0)):=by
 refine h.step (by omega) (by omega) fun r most=>?_
 have e:data.getD k 0=data[k]:=by rw[List.getD_eq_getElem?_getD,List.getElem?_eq_getElem (by omega)];rfl
 rw[pl0 _ _ _ (by rw[e];exact hb _ (List.getElem_mem _)),List.length_take,Nat.min_eq_left (by omega),List.take_succ_eq_append_getElem (by omega),e]
theorem Enc.copy{data:List Nat}{k:Nat}{bs:List Bool}(h:Enc data k bs)(n d:Nat)(h3:3≤n)(hn:n≤258)(hd:1≤d)(hd2:d≤32768)(hdk:d≤k)(hk:k+n≤data.length)
  (hs:∀ i,i<n→data.getD (k+i) 0=data.getD (k-d+i) 0):Enc data (k+n) (bs++copyBits n d):=by
 refine h.step (by omega) hk fun r most=>?_
 rw[pac n d _ _ h3 hn hd hd2 _ _ (by rw[List.length_take];omega) hd2,List.length_take,Nat.min_eq_left (by omega),cd_ data d n k hd hdk hk hs]
end Fo
section
namespace Fo
def PartsTo(c:Codes)(window most:Nat)(r:List Bool)(out:List Nat)(res:Except Nat (List Bool × List Nat)):Prop:=
 ∀ P:List Bool→List Nat→Except Nat (List Bool × List Nat)→Prop,
  (∀ r out e,part c window most r out=.error e→P r out (.error e)) →
  (∀ r out r' out',part c window most r out=.ok (false,r',out')→P r out (.ok (r',out'))) →
  (∀ r out r' out' res,part c window most r out=.ok (true,r',out')→P r' out' res→P r out res)→P r out res
section
variable{c:Codes}{window most:Nat}{r r':List Bool}{out out':List Nat}{res:Except Nat (List Bool × List Nat)}
theorem PartsTo.err{e:Nat}(h:part c window most r out=.error e):PartsTo c window most r out (.error e):=fun _ h1 _ _=>h1 _ _ _ h
theorem PartsTo.stop(h:part c window most r out=.ok (false,r',out')):PartsTo c window most r out (.ok (r',out')):=fun _ _ h2 _=>h2 _ _ _ _ h
theorem PartsTo.more(h:part c window most r out=.ok (true,r',out'))(k:PartsTo c window most r' out' res):PartsTo c window most r out res:=fun P h1 h2 h3=>h3 _ _ _ _ _ h (k P h1 h2 h3)
theorem PartsTo.parted(h:PartsTo c window most r out res) :
  (∃ e,part c window most r out=.error e∧res=.error e)∨(∃ r' out',part c window most r out=.ok (false,r',out')∧res=.ok (r',out'))∨(∃ r' out',part c window most r out=.ok (true,r',out')∧PartsTo c window most r' out' res):=
 (h (fun r out res=>PartsTo c window most r out res∧((∃ e,part c window most r out=.error e∧res=.error e)∨(∃ r' out',part c window most r out=.ok (false,r',out')∧res=.ok (r',out'))∨(∃ r' out',part c window most r out=.ok (true,r',out')∧PartsTo c window most r' out' res)))
  (fun _ _ e he=>⟨.err he,Or.inl ⟨e,he,rfl⟩⟩) (fun _ _ r' out' he=>⟨.stop he,Or.inr (Or.inl ⟨r',out',he,rfl⟩)⟩) (fun _ _ r' out' _ he hk=>⟨.more he hk.1,Or.inr (Or.inr ⟨r',out',he,hk.1⟩)⟩)).2
end
theorem syGs(cs ss:List Nat)(k len code first place:Nat)(r:List Bool)(s:Nat)(q:List Bool)
  (h:symGo cs ss k len code first place r=some (s,q)):q.length<r.length:=by
 induction k generalizing len code first place r with
 |zero=>simp[symGo]at h
 |succ k ih =>
  cases r with
  |nil=>simp[symGo]at h
  |cons b r =>
   simp only[symGo]at h
   by_cases c:2*code+b.toNat<2*first+cs.getD len 0
   ·rw[if_pos c]at h;simp at h;rw[←h.2];simp
   ·rw[if_neg c]at h;have:=ih _ _ _ _ _ h;simp;omega
theorem sys{cs ss:List Nat}{r q:List Bool}{s:Nat}(h:sym cs ss r=some (s,q)):q.length<r.length:=syGs _ _ _ _ _ _ _ _ _ _ h
theorem ts{n v:Nat}{r q:List Bool}(h:take n r=some (v,q)):q.length≤r.length:=by
 unfold take at h;split at h<;>simp at h;rw[←h.2];simp
theorem take_rest{n v:Nat}{r q:List Bool}(h:take n r=some (v,q)):n≤r.length∧v=val (r.take n)∧q=r.drop n:=by
 unfold take at h;split at h<;>simp at h;exact⟨by assumption,h.1.symm,h.2.symm⟩
theorem part_shorter{c:Codes}{window most:Nat}{r r':List Bool}{out out':List Nat}{b:Bool}(h:part c window most r out=.ok (b,r',out')):r'.length<r.length:=by
 unfold part at h
 cases h1:sym c.cs c.ss r with
 |none=>rw[h1]at h;cases h
 |some x =>
  obtain⟨s,r1⟩:=x
  have l1:=sys h1
  rw[h1]at h;simp only[]at h
  by_cases c1:s<256
  ·rw[if_pos c1]at h;split at h<;>cases h;exact l1
  rw[if_neg c1]at h
  by_cases c2:s=256
  ·rw[if_pos c2]at h;cases h;exact l1
  rw[if_neg c2]at h
  by_cases c3:285<s
  ·rw[if_pos c3]at h;cases h
  rw[if_neg c3]at h
  cases h2:take (lenSpan s).2 r1 with
  |none=>rw[h2]at h;cases h
  |some x =>
   obtain⟨x,r2⟩:=x
   have l2:=ts h2
   rw[h2]at h;simp only[]at h
   cases h3:sym c.cd c.sd r2 with
   |none=>rw[h3]at h;cases h
   |some y =>
    obtain⟨t,r3⟩:=y
    have l3:=sys h3
    rw[h3]at h;simp only[]at h
    by_cases c4:29<t
    ·rw[if_pos c4]at h;cases h
    rw[if_neg c4]at h
    cases h4:take (distSpan t).2 r3 with
    |none=>rw[h4]at h;cases h
    |some z =>
     obtain⟨y,r4⟩:=z
     have l4:=ts h4
     rw[h4]at h;simp only[]at h
     split at h
     ·split at h<;>cases h;omega
     ·cases h
theorem pe_(window most:Nat)(r:List Bool)(out:List Nat):part fixedC window most (codeBits tabF 256++r) out=.ok (false,r,out):=by
 unfold part
 rw[fixedC_cs,fixedC_ss,syl 256 (by omega)]
 simp
theorem Enc.run{data:List Nat}{k most:Nat}{bs r:List Bool}{res}(h:Enc data k bs)(hm:k≤most)(hr:PartsTo fixedC 32768 most r (data.take k) res):PartsTo fixedC 32768 most (bs++r) [] res:=by
 refine h.ind (fun k bs=>∀ r,k≤most→PartsTo fixedC 32768 most r (data.take k) res→PartsTo fixedC 32768 most (bs++r) [] res) ?_ ?_ r hm hr
 ·intro r _ hr
  simpa using hr
 ·intro k n bs p _ ih hs r hm hr
  rw[List.append_assoc]
  refine ih _ (by omega) (.more (r':=r) (out':=data.take (k+n)) ?_ hr)
  rw[hs.2.2,if_pos hm]
theorem Enc.cap{data:List Nat}{k most:Nat}{bs:List Bool}(h:Enc data k bs)(hm:most<k)(r:List Bool):PartsTo fixedC 32768 most (bs++r) [] (.error 6):=by
 refine h.ind (fun k bs=>most<k→∀ r,PartsTo fixedC 32768 most (bs++r) [] (.error 6)) ?_ ?_ hm r
 ·intro hm
  omega
 ·intro k n bs p h ih hs hm r
  rw[List.append_assoc]
  by_cases c:most<k
  ·exact ih c _
  ·refine h.run (by omega) (.err ?_)
   rw[hs.2.2,if_neg (by omega)]
theorem Enc.whole{data:List Nat}{most:Nat}{bs:List Bool}(h:Enc data data.length bs)(hm:data.length≤most)(r:List Bool):PartsTo fixedC 32768 most (bs++(codeBits tabF 256++r)) [] (.ok (r,data)):=by
 refine h.run hm (.stop ?_)
 rw[pe_,List.take_length]
end Fo
end
end Go.Proofs.YtgkljcmjnphpeaaGreatDoor
