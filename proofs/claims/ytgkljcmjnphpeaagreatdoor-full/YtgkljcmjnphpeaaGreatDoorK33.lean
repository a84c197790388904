import Derived.Test.YtgkljcmjnphpeaaGreatDoorK32
import Derived.Lib.SlBytesConst
import Derived.Test.YtgkljcmjnphpeaaGreatDoorK24
import Derived.ProofKit
import Derived.LaidMore
import Derived.OpenShut
import Derived.Stop.LaidErr
import Derived.Test.YtgkljcmjnphpeaaGreatDoorCards
import Derived.SevenTiedAt
import Derived.RangeFuncNested
import Derived.RangeFuncBound
import Derived.Shelf.RegionOpen
import Derived.OwnWalkIn
import Derived.LoopNIn
import Derived.LoopIn
set_option linter.unusedVariables false
set_option linter.unusedSimpArgs false
set_option maxHeartbeats 8000000
set_option maxRecDepth 100000
namespace Go.Proofs.YtgkljcmjnphpeaaGreatDoor
open Go.RowKit
section
variable{w:World}{B cap:Nat}{data:List Nat}{ao:Option Addr}
def BN(most:Nat)(rr:List Bool):Prop:=
 (∃ b r,rr=b::(Fo.numBits 2 1++r)∧Fo.PartsTo Fo.fixedC 32768 most r [] (.error 6)) ∨
 (∃(b:Bool) (r r':List Bool) (D:List Nat),rr=b::(Fo.numBits 2 0++r)∧0<D.length∧D.length≤65535∧(∀ i,i<D.length→nth D i<256)∧r.drop (r.length%8)=Fo.numBits 16 D.length++(Fo.numBits 16 (65535-D.length)++(Fo.bitsOf D++r'))∧r'.length%8=0∧most<D.length)
structure Pa(data bl:List Nat):Prop where
 unp:∀(most:Nat) (t:List Nat),data.length≤most→∃ r,Blocks 32768 most (Fo.bitsOf (bl++t)) [] r data∧r.drop (r.length%8)=Fo.bitsOf t
 no:∀(most:Nat) (t:List Nat),most<data.length→BN most (Fo.bitsOf (bl++t))
theorem paf{out:List Nat}{used:Nat}{eb:List Bool}(hb:Fo.BW out used (fB eb))(he:Fo.Enc data data.length eb):Pa data out:=by
 obtain⟨h1,h2,h3,h4⟩:=hb
 have e:∀ t,fB eb++List.replicate ((8-used)%8) false++Fo.bitsOf t=true::(Fo.numBits 2 1++(eb++(Fo.codeBits Fo.tabF 256++(List.replicate ((8-used)%8) false++Fo.bitsOf t)))):=by
  intro t
  unfold fB;simp only[List.cons_append,List.append_assoc]
 refine⟨fun most t hm=>?_,fun most t hm=>?_⟩
 ·refine⟨List.replicate ((8-used)%8) false++Fo.bitsOf t,?_,?_⟩
  ·rw[Fo.bitsOf_append,h4,e]
   exact .lastFixed (he.whole hm _)
  ·rw[List.length_append,List.length_replicate,Fo.bitsOf_length]
   rw[show((8-used)%8+8*t.length)%8=(8-used)%8 by omega]
   rw[List.drop_left' (by rw[List.length_replicate])]
 ·rw[Fo.bitsOf_append,h4,e]
  exact Or.inl ⟨true,_,rfl,he.cap hm _⟩
theorem ps0{out:List Nat}(hb:Fo.BW out 0 (sB data))(h0:0<data.length)(hl:data.length≤65535)(byt:∀ i,i<data.length→nth data i<256):Pa data out:=by
 obtain⟨_,h2,h3,h4⟩:=hb
 have e:∀ t,sB data++List.replicate ((8-0)%8) false++Fo.bitsOf t=true::(Fo.numBits 2 0++(List.replicate 5 false++(Fo.numBits 16 data.length++(Fo.numBits 16 (65535-data.length)++(Fo.bitsOf data++Fo.bitsOf t))))):=by
  intro t
  unfold sB
  rw[show(8-0)%8=0 from rfl]
  simp only[List.cons_append,List.append_assoc,List.replicate_zero,List.nil_append]
 have l5:∀ t,(List.replicate 5 false++(Fo.numBits 16 data.length++(Fo.numBits 16 (65535-data.length)++(Fo.bitsOf data++Fo.bitsOf t)))).length%8=5:=by
  intro t
  simp only[List.length_append,List.length_replicate,Fo.numBits_length,Fo.bitsOf_length];omega
 refine⟨fun most t hm=>?_,fun most t hm=>?_⟩
 ·refine⟨Fo.bitsOf t,?_,?_⟩
  ·rw[Fo.bitsOf_append,h4,e]
   have:=Blocks.lastStored (window:=32768) (most:=most) (r:=List.replicate 5 false++(Fo.numBits 16 data.length++(Fo.numBits 16 (65535-data.length)++(Fo.bitsOf data++Fo.bitsOf t)))) (r':=Fo.bitsOf t) (out:=[]) data h0 hl byt ?_ (by rw[Fo.bitsOf_length];omega) (by simpa using hm)
   ·simpa using this
   ·rw[l5,List.drop_left' (by rw[List.length_replicate])]
  ·rw[Fo.bitsOf_length,show(8*t.length)%8=0 by omega,List.drop_zero]
 ·rw[Fo.bitsOf_append,h4,e]
  exact Or.inr ⟨true,_,Fo.bitsOf t,data,rfl,h0,hl,byt,by rw[l5,List.drop_left' (by rw[List.length_replicate])],by rw[Fo.bitsOf_length];omega,hm⟩
theorem on_{w:World}{B:Nat}(hB:B≤w.heap.size)(l:List Nat)(hl:l.length≤100):(w.alloc (.cells (l.map fun x:Nat=>Value.int .u8 (x:Int)).toArray 5)).ownsRow B 5 1 (.slice (some ⟨w.heap.size,0,none⟩) l.length l.length) l.length (l.map fun x:Nat=>.int .u8 (x:Int)):=by
 refine⟨by simp,Or.inr ⟨w.heap.size,l.length,_,rfl,hB,bln _ _,Nat.le_refl _,by unfold maxLen;omega,by simp,?_⟩⟩
 rw[List.take_of_length_le (by simp)]
theorem fBl(eb:List Bool):(fB eb).length=10+eb.length:=by
 unfold fB
 rw[cBe,code256]
 simp only[List.length_cons,List.length_append,Fo.numBits_length,hBl];omega
theorem sBl(data:List Nat):(sB data).length=40+8*data.length:=by
 unfold sB
 simp only[List.length_cons,List.length_append,Fo.numBits_length,List.length_replicate,Fo.bitsOf_length];omega
def flOut(data bl:List Nat):List Nat:=[120,156]++bl++sum4 data
theorem of_0{w:World}{B e n size k:Nat}{v:Value}{xs:List Value}(h:w.ownsRow B e size v n xs)(hk:k<B):some k≠v.ownBlock:=fun he=>of0 h hk he.symm
theorem eFo(hd:Dat w B ao data)(hB:B≤w.heap.size)(byt:∀ i,i<data.length→nth data i<256)(len:data.length≤65535)(lc:data.length≤cap∧cap≤9223372036854775807)(hn:ao=none→cap=0) :
  Calls Tryz.prog 104 #[.slice ao data.length cap] w fun e w'=>∃(v:Value) (bl:List Nat),e=.returned v∧w'.ownsRow w.heap.size 5 1 v (flOut data bl).length ((flOut data bl).map fun x:Nat=>.int .u8 (x:Int))∧Below w.heap.size w w'∧Pa data bl∧2≤bl.length∧bl.length≤data.length+5∧(∀ x∈bl,x<256):=by
 obtain⟨i0,hi,hz0,hz1,hz2⟩:=info_parts Tryz.infoByte
 have H1:=hide (dco hd hB byt (by omega) lc)
 have HD:=hide hd
 have BYT:=hide byt
 clear hd byt
 go_enter Tryz.func104,Tryz.ntmps104
 go_wp2_with fail
 refine H1.o.mono ?_
 rintro e w1 ⟨ov1,out1,used,eb,rfl,own1,b1,hb1,henc,hel,_⟩
 have hP1:=hide (paf hb1 henc)
 have hl1:=bwl hb1
 rw[fBl]at hl1
 have hq1:=hide hb1.2.2.1
 obtain⟨a1,c1,rfl⟩:=ows own1
 have OWN1:=hide own1
 have B1:=hide b1
 have hs1:=b1.size
 clear own1 b1 hb1 henc H1
 have hlow:2≤out1.length:=by omega
 have HL1:=hide (And.intro hl1 hel)
 clear hl1 hel
 go_wp2_with fail
 refine(wso (HD.o.below B1.o) (by omega) BYT.o len hn).mono ?_
 rintro e w2 ⟨ov2,out2,rfl,own2,b2,hb2⟩
 have hl2:=bwl hb2
 rw[sBl]at hl2
 have HL2:=hide (show out2.length=data.length+5 by omega)
 clear hl2
 obtain⟨a2,c2,rfl⟩:=ows own2
 have O1:=hide (owb OWN1.o b2)
 have O2:=hide (ob_ own2 (B':=w.heap.size) hs1)
 have B2:=hide (B1.o.trans (b2.mono hs1))
 have HB2:=hide hb2
 have HD2:=hide (HD.o.below B2.o)
 have hs2:=B2.o.size
 clear own2 b2 OWN1 B1 hb2 HD
 by_cases hc:out2.length<out1.length
 ·have hc':(out2.length:Int)<out1.length:=by omega
  have hpos:0<data.length:=by
   have:=HL1.o;have:=HL2.o;omega
  have HP:=hide (And.intro (ps0 HB2.o hpos len BYT.o) (And.intro (show 2≤out2.length by have:=HL2.o;omega) (And.intro (show out2.length≤data.length+5 by have:=HL2.o;omega) HB2.o.2.2.1)))
  have O:=O2
  clear O1 O2 HL1 HL2 HB2 hP1 hq1 hlow hn
  obtain⟨g,hag,hg⟩:∃ g,a2=some ⟨g,0,none⟩∧w.heap.size≤g:=by
   obtain⟨g,c,hav,hg⟩:=owf O.o (by have:=HP.o.2.1;omega)
   cases hav
   exact⟨g,rfl,hg⟩
  subst hag
  have hgl:=(O.o.lt g rfl).2
  go_wp2_with fail
  refine(suo ao cap data (B:=B) (by omega) HD2.o (by omega) BYT.o).mono ?_
  rintro e w3 ⟨rfl,o3,rfl⟩
  unfold suV
  have hO3:=hide (((O.o.alloc o3).alloc (.cells #[.int .u8 ((sumAB data).2/256:Nat),.int .u8 ((sumAB data).2%256:Nat),.int .u8 ((sumAB data).1/256:Nat),.int .u8 ((sumAB data).1%256:Nat)] 153)).alloc (.cells #[.int .u8 120,.int .u8 156] 5))
  have hb5:=hide (((B2.o.alloc hs2 o3).alloc (by simp;omega) (.cells #[.int .u8 ((sumAB data).2/256:Nat),.int .u8 ((sumAB data).2%256:Nat),.int .u8 ((sumAB data).1/256:Nat),.int .u8 ((sumAB data).1%256:Nat)] 153)).alloc (by simp;omega) (.cells #[.int .u8 120,.int .u8 156] 5))
  have hN:=hide (on_ (w:=(w2.alloc o3).alloc (.cells #[.int .u8 ((sumAB data).2/256:Nat),.int .u8 ((sumAB data).2%256:Nat),.int .u8 ((sumAB data).1/256:Nat),.int .u8 ((sumAB data).1%256:Nat)] 153)) (B:=w.heap.size) (by simp;omega) [120,156] (by simp))
  have hS4:=hide (bla (.cells #[.int .u8 120,.int .u8 156] 5) (bln (w2.alloc o3) (.cells #[.int .u8 ((sumAB data).2/256:Nat),.int .u8 ((sumAB data).2%256:Nat),.int .u8 ((sumAB data).1/256:Nat),.int .u8 ((sumAB data).1%256:Nat)] 153)))
  have tok:True:=trivial
  go_wp2_with (at_builtin;have _t:=tok;refine wpList_append_own _ rfl (.tmp 19) (.tmp 20) 23 rfl w.heap.size 5 i0 (.int .u8 0) 1 1 Tryz.underlying23 hi hz0 hz1 hz2 rfl (by decide) (.slice (some ⟨w2.heap.size+1+1,0,none⟩) 2 2) 2 ([120,156].map fun x:Nat=>.int .u8 (x:Int)) rfl ?hown ⟨g,0,none⟩ out2.length c2 (out2.map fun x:Nat=>.int .u8 (x:Int)) rfl (by simp) ?hnews ?hone ?h63 ?hby ?hbs ?_;clear tok)
  case hown=>simpa using hN.o
  case hnews=>exact hO3.o.cells (g:=g) rfl
  case hone=>intro u hu;simp at hu;obtain⟨x,_,rfl⟩:=hu;rfl
  case h63=>have:=HP.o.2.2.1;unfold maxLen;omega
  case hby=>have:=HP.o.2.2.1;omega
  case hbs=>simp;omega
  intro v1 w6 own6 hg6 _
  have hsum6:=hide (show w6.heap[w2.heap.size+1]?=some (.cells #[.int .u8 ((sumAB data).2/256:Nat),.int .u8 ((sumAB data).2%256:Nat),.int .u8 ((sumAB data).1/256:Nat),.int .u8 ((sumAB data).1%256:Nat)] 153 (0,0))by
   rw[hg6.block _ (by simp) (by simp[Value.ownBlock])];simpa using hS4.o)
  have B6:=hide (show Below w.heap.size w w6 from hb5.o.trans ⟨hg6.os,hg6.tape,hg6.output,hg6.size,fun k hk=>hg6.block k (by simp;omega) (by simp[Value.ownBlock];omega)⟩)
  have OWN6:=hide own6
  obtain⟨a6,c6,rfl⟩:=ows own6
  clear own6 hg6 hb5 hN hS4 hO3 O B2 HD2
  have hs6:=B6.o.size
  have hsl:=lt_of_block hsum6.o
  go_wp2_with (at_builtin;refine wpList_append_own _ rfl (.tmp 22) (.tmp 23) 23 rfl w.heap.size 5 i0 (.int .u8 0) 1 1 Tryz.underlying23 hi hz0 hz1 hz2 rfl (by decide) (.slice a6 (2+out2.length) c6) (2+out2.length) _ rfl OWN6.o ⟨w2.heap.size+1,0,none⟩ 4 4 ((sum4 data).map fun x:Nat=>.int .u8 (x:Int)) rfl rfl ?hnews ?hone ?h63 ?hby ?hbs ?_)
  case hnews =>
   intro j u hu
   rw[aa,ceb hsum6.o]
   simpa[sum4]using hu
  case hone=>intro u hu;simp at hu;obtain⟨x,_,rfl⟩:=hu;rfl
  case h63=>have:=HP.o.2.2.1;unfold maxLen;omega
  case hby=>have:=HP.o.2.2.1;omega
  case hbs=>omega
  intro v7 w7 own7 hg7 _
  have B7:=B6.o.trans (show Below w.heap.size w6 w7 from⟨hg7.os,hg7.tape,hg7.output,hg7.size,fun k hk=>hg7.block k (by omega) (of_0 OWN6.o hk)⟩)
  clear hg7
  go_wp2
  go_ret
  refine⟨v7,out2,rfl,?_,B7,HP.o⟩
  unfold flOut
  rw[List.map_append,List.map_append,List.length_append,List.length_append]
  exact own7
 ·have hc':¬ (out2.length:Int)<out1.length:=by omega
  have HP:=hide (And.intro hP1.o (And.intro (show 2≤out1.length from hlow) (And.intro (show out1.length≤data.length+5 by have:=HL2.o;omega) hq1.o)))
  have O:=O1
  clear O1 O2 HL1 HL2 HB2 hP1 hq1 hlow hn
  obtain⟨g,hag,hg⟩:∃ g,a1=some ⟨g,0,none⟩∧w.heap.size≤g:=by
   obtain⟨g,c,hav,hg⟩:=owf O.o (by have:=HP.o.2.1;omega)
   cases hav
   exact⟨g,rfl,hg⟩
  subst hag
  have hgl:=(O.o.lt g rfl).2
  go_wp2_with fail
  refine(suo ao cap data (B:=B) (by omega) HD2.o (by omega) BYT.o).mono ?_
  rintro e w3 ⟨rfl,o3,rfl⟩
  unfold suV
  have hO3:=hide (((O.o.alloc o3).alloc (.cells #[.int .u8 ((sumAB data).2/256:Nat),.int .u8 ((sumAB data).2%256:Nat),.int .u8 ((sumAB data).1/256:Nat),.int .u8 ((sumAB data).1%256:Nat)] 153)).alloc (.cells #[.int .u8 120,.int .u8 156] 5))
  have hb5:=hide (((B2.o.alloc hs2 o3).alloc (by simp;omega) (.cells #[.int .u8 ((sumAB data).2/256:Nat),.int .u8 ((sumAB data).2%256:Nat),.int .u8 ((sumAB data).1/256:Nat),.int .u8 ((sumAB data).1%256:Nat)] 153)).alloc (by simp;omega) (.cells #[.int .u8 120,.int .u8 156] 5))
  have hN:=hide (on_ (w:=(w2.alloc o3).alloc (.cells #[.int .u8 ((sumAB data).2/256:Nat),.int .u8 ((sumAB data).2%256:Nat),.int .u8 ((sumAB data).1/256:Nat),.int .u8 ((sumAB data).1%256:Nat)] 153)) (B:=w.heap.size) (by simp;omega) [120,156] (by simp))
  have hS4:=hide (bla (.cells #[.int .u8 120,.int .u8 156] 5) (bln (w2.alloc o3) (.cells #[.int .u8 ((sumAB data).2/256:Nat),.int .u8 ((sumAB data).2%256:Nat),.int .u8 ((sumAB data).1/256:Nat),.int .u8 ((sumAB data).1%256:Nat)] 153)))
  have tok:True:=trivial
  go_wp2_with (at_builtin;have _t:=tok;refine wpList_append_own _ rfl (.tmp 19) (.tmp 20) 23 rfl w.heap.size 5 i0 (.int .u8 0) 1 1 Tryz.underlying23 hi hz0 hz1 hz2 rfl (by decide) (.slice (some ⟨w2.heap.size+1+1,0,none⟩) 2 2) 2 ([120,156].map fun x:Nat=>.int .u8 (x:Int)) rfl ?hown ⟨g,0,none⟩ out1.length c1 (out1.map fun x:Nat=>.int .u8 (x:Int)) rfl (by simp) ?hnews ?hone ?h63 ?hby ?hbs ?_;clear tok)
  case hown=>simpa using hN.o
  case hnews=>exact hO3.o.cells (g:=g) rfl
  case hone=>intro u hu;simp at hu;obtain⟨x,_,rfl⟩:=hu;rfl
  case h63=>have:=HP.o.2.2.1;unfold maxLen;omega
  case hby=>have:=HP.o.2.2.1;omega
  case hbs=>simp;omega
  intro v1 w6 own6 hg6 _
  have hsum6:=hide (show w6.heap[w2.heap.size+1]?=some (.cells #[.int .u8 ((sumAB data).2/256:Nat),.int .u8 ((sumAB data).2%256:Nat),.int .u8 ((sumAB data).1/256:Nat),.int .u8 ((sumAB data).1%256:Nat)] 153 (0,0))by
   rw[hg6.block _ (by simp) (by simp[Value.ownBlock])];simpa using hS4.o)
  have B6:=hide (show Below w.heap.size w w6 from hb5.o.trans ⟨hg6.os,hg6.tape,hg6.output,hg6.size,fun k hk=>hg6.block k (by simp;omega) (by simp[Value.ownBlock];omega)⟩)
  have OWN6:=hide own6
  obtain⟨a6,c6,rfl⟩:=ows own6
  clear own6 hg6 hb5 hN hS4 hO3 O B2 HD2
  have hs6:=B6.o.size
  have hsl:=lt_of_block hsum6.o
  go_wp2_with (at_builtin;refine wpList_append_own _ rfl (.tmp 22) (.tmp 23) 23 rfl w.heap.size 5 i0 (.int .u8 0) 1 1 Tryz.underlying23 hi hz0 hz1 hz2 rfl (by decide) (.slice a6 (2+out1.length) c6) (2+out1.length) _ rfl OWN6.o ⟨w2.heap.size+1,0,none⟩ 4 4 ((sum4 data).map fun x:Nat=>.int .u8 (x:Int)) rfl rfl ?hnews ?hone ?h63 ?hby ?hbs ?_)
  case hnews =>
   intro j u hu
   rw[aa,ceb hsum6.o]
   simpa[sum4]using hu
  case hone=>intro u hu;simp at hu;obtain⟨x,_,rfl⟩:=hu;rfl
  case h63=>have:=HP.o.2.2.1;unfold maxLen;omega
  case hby=>have:=HP.o.2.2.1;omega
  case hbs=>omega
  intro v7 w7 own7 hg7 _
  have B7:=B6.o.trans (show Below w.heap.size w6 w7 from⟨hg7.os,hg7.tape,hg7.output,hg7.size,fun k hk=>hg7.block k (by omega) (of_0 OWN6.o hk)⟩)
  clear hg7
  go_wp2
  go_ret
  refine⟨v7,out1,rfl,?_,B7,HP.o⟩
  unfold flOut
  rw[List.map_append,List.map_append,List.length_append,List.length_append]
  exact own7
end
section
variable{w:World}{B cap n:Nat}{data:List Nat}{ao:Option Addr}{P:Value→World→Prop}
theorem fenc4(hc:Calls Tryz.prog 104 #[.slice ao n cap] w fun e w'=>∃ v,e=.returned v∧P v w') :
  Calls Tryz.prog 70 #[.int .i64 4,.slice ao n cap] w fun e w'=>∃ v,e=.returned v∧P v w':=by
 have HC:=hide hc
 clear hc
 go_enter Tryz.func70,Tryz.ntmps70
 go_wp2_with fail
 refine HC.o.mono ?_
 rintro e w1 ⟨v,rfl,hp⟩
 go_wp2
 go_ret
 exact⟨v,rfl,hp⟩
theorem fe(f:Nat)(hf:1≤f∧f≤4)(hn:n≤200000)(hc:Calls Tryz.prog 70 #[.int .i64 f,.slice ao n cap] w fun e w'=>∃ v,e=.returned v∧P v w') :
  Calls Tryz.prog 33 #[.int .i64 f,.slice ao n cap] w fun e w'=>∃ v,e=.returned (.tuple #[v,.int .i64 0])∧P v w':=by
 have HC:=hide hc
 clear hc
 go_enter Tryz.func33,Tryz.ntmps33
 go_wp2_with (go_at_call 63;refine(wiy _ _ _ _ (by omega) (by omega)).mono ?_;rintro e w' ⟨rfl,rfl⟩)
 refine HC.o.mono ?_
 rintro e w1 ⟨v,rfl,hp⟩
 go_wp2
 exact bodyPost_ret (v:=.tuple #[v,.int .i64 0]) (by simp[results,Tryz.results33,go_sem]) rfl ⟨v,rfl,hp⟩
end
section
variable{B br bd off cap:Nat}{d:List Nat}{most:Nat}{w:World}{p:Nat}{ov:Value}{out:List Nat}
theorem dAs(h:Rd B br bd off cap d most w p ov out)(G:List Nat)(hG:G.length=5)(n:Nat)(hn:2≤n)(hn2:n≤4)(hp:p+n+2=d.length)(hd:∀ i,i<n→nth d (p+i)=nth G i)(hg:∀ i,i<n→33≤nth G i∧nth G i≤117)
  (he1:nth d (p+n)=126) (he2:nth d (p+n+1)=62) (V:Nat) (hV:shV (nth G 0) (nth G 1) (nth G 2) (nth G 3) n=V) (hm:V≤4294967295) (ho:out.length+(n-1)≤most) :
  Calls Tryz.prog 114 #[.pointer (some ⟨br,0,none⟩)] w fun e w'=>e=.returned (.tuple #[])∧∃ ov',Rd B br bd off cap d most w' d.length ov' (out++(aO V).take (n-1))∧Kept 5 B [br] w w':=by
 have HG:=hide (aGs h G hG n hn hn2 (by omega) hd hg he1 he2 V hV hm ho)
 rw[hp]at HG
 clear h hd hg he1 he2 hV
 go_enter Tryz.func114,Tryz.ntmps114
 go_wp2
 go_loopw [2] (fun _ wr=>wr=w) (fun _ _=>0)
 case atStart=>rfl
 case round =>
  obtain rfl:=hrel
  go_wp2_with fail
  refine HG.o.mono ?_
  rintro e w1 ⟨rfl,ov1,r1,k1⟩
  go_wp2_with fail
  refine(sWe r1).mono ?_
  rintro e w2 ⟨rfl,r2,k2⟩
  go_wp2_with fail
  refine(eo r2).mono ?_
  rintro e w3 ⟨rfl,q,rfl⟩
  go_wp2
  go_end0
  exact⟨rfl,ov1,r2.drewN q,(k1.trans k2).drewN q⟩
theorem fenc3{ao:Option Addr}{n:Nat}{P:Value→World→Prop}(hc:Calls Tryz.prog 103 #[.slice ao n cap] w fun e w'=>∃ v,e=.returned v∧P v w') :
  Calls Tryz.prog 70 #[.int .i64 3,.slice ao n cap] w fun e w'=>∃ v,e=.returned v∧P v w':=by
 have HC:=hide hc
 clear hc
 go_enter Tryz.func70,Tryz.ntmps70
 go_wp2_with fail
 refine HC.o.mono ?_
 rintro e w1 ⟨v,rfl,hp⟩
 go_wp2
 go_ret
 exact⟨v,rfl,hp⟩
theorem fds(hbd:bd<w.heap.size)(hdd:∀ i,i<d.length→w.cell? ⟨bd,off+i,none⟩=some (.int .u8 (nth d i:Nat)))(hb:∀ i,i<d.length→nth d i<256)(hc:d.length≤cap)(hlc:cap≤9223372036854775807)(hm:most≤1000000)
  (G:List Nat) (hG:G.length=5) (n:Nat) (hn:2≤n) (hn2:n≤4) (hp:n+2=d.length) (hd:∀ i,i<n→nth d i=nth G i) (hg:∀ i,i<n→33≤nth G i∧nth G i≤117)
  (he1:nth d n=126) (he2:nth d (n+1)=62) (V:Nat) (hV:shV (nth G 0) (nth G 1) (nth G 2) (nth G 3) n=V) (hVm:V≤4294967295) (ho:n-1≤most) :
  Calls Tryz.prog 80 #[.int .i64 2,.slice (some ⟨bd,off,none⟩) d.length cap,.int .i64 most] w fun e w'=>∃ v,e=.returned v∧w'.ownsRow w.heap.size 5 1 v ((aO V).take (n-1)).length (((aO V).take (n-1)).map fun x:Nat=>.int .u8 (x:Int))∧Below w.heap.size w w':=by
 have R:=Rd.start hbd hdd hb hc hlc hm
 have HC:=hide (dAs R G hG n hn hn2 (by omega) (by simpa using hd) hg (by simpa using he1) (by simpa using he2) V hV hVm (by simpa using ho))
 rw[List.nil_append]at HC
 clear R hdd hb hd hg he1 he2 hV
 go_enter Tryz.func80,Tryz.ntmps80
 go_wp2_with fail
 refine HC.o.mono ?_
 rintro e w1 ⟨rfl,ov,r1,k1⟩
 have c2:=r1.c2
 go_wp2
 go_ret
 exact⟨ov,rfl,r1.own,kBN k1⟩
end
section
variable{w:World}{B:Nat}
def strOf(l:List Nat):ByteArray:=strOfNums (l.map fun x:Nat=>(x:Int))
theorem so4{g n c:Nat}{l:List Nat}(h:w.ownsRow B 5 1 (.slice (some ⟨g,0,none⟩) n c) n (l.map fun x:Nat=>.int .u8 (x:Int))):(convert 23 9 (.slice (some ⟨g,0,none⟩) n c)).run Tryz.prog w=.ok (.string (strOf l)) w:=by
 have hl:l.length=n:=by have:=h.1;simpa using this
 refine run_convert_bytes_arg w 23 5 Tryz.underlying23 Tryz.underlying5 g 0 n c _ (by rw[List.length_map];exact hl) (fun i hi=>?_) 9 Tryz.underlying9
 have:=h.cellAt i (by omega)
 rw[Nat.zero_add,this]
 simp[show i<l.length by omega]
theorem ld(l:List Nat)(fz:Nat × Nat):Dat (w.alloc (.cells (bV l).toArray 5 fz)) (w.heap.size+1) (some ⟨w.heap.size,0,none⟩) l:=by
 intro i hi
 refine⟨w.heap.size,0,rfl,by omega,?_⟩
 rw[Nat.zero_add,ceb (bln _ _)]
 simp[bV,nth,hi]
theorem ena:Calls Tryz.prog 33 #[.int .i64 3,.slice (some ⟨w.heap.size,0,none⟩) 3 3] (w.alloc (.cells #[.int .u8 97,.int .u8 97,.int .u8 98] 5 (3,4))) fun e w'=>∃ v,e=.returned (.tuple #[v,.int .i64 0])∧w'.ownsRow (w.heap.size+1) 5 1 v 5 ([255,97,0,98,128].map fun x:Nat=>.int .u8 (x:Int))∧Below (w.heap.size+1) (w.alloc (.cells #[.int .u8 97,.int .u8 97,.int .u8 98] 5 (3,4))) w':=by
 refine fe (P:=fun v w'=>w'.ownsRow (w.heap.size+1) 5 1 v 5 ([255,97,0,98,128].map fun x:Nat=>.int .u8 (x:Int))∧Below (w.heap.size+1) (w.alloc (.cells #[.int .u8 97,.int .u8 97,.int .u8 98] 5 (3,4))) w') 3 (by omega) (by omega) (fenc3 ?_)
 have hd:=ld (w:=w) [97,97,98] (3,4)
 have:=eRs (cap:=3) hd (by simp) (by intro i hi;have:i<3:=hi;match i,this with | 0,_=>decide | 1,_=>decide | 2,_=>decide) (by decide) (by decide)
 rw[Fo.encRun_aab]at this
 refine this.mono ?_
 rintro e w' ⟨v,rfl,h1,h2⟩
 exact⟨v,rfl,h1,h2.below (by simp) (by simp)⟩
theorem dh:Calls Tryz.prog 39 #[.int .i64 2,.slice (some ⟨w.heap.size,0,none⟩) 5 5,.int .i64 2] (w.alloc (.cells #[.int .u8 56,.int .u8 56,.int .u8 47,.int .u8 126,.int .u8 62] 5 (5,6))) fun e w'=>∃ v,e=.returned (.tuple #[v,.int .i64 0])∧w'.ownsRow (w.heap.size+1) 5 1 v 2 ([72,105].map fun x:Nat=>.int .u8 (x:Int))∧Below (w.heap.size+1) (w.alloc (.cells #[.int .u8 56,.int .u8 56,.int .u8 47,.int .u8 126,.int .u8 62] 5 (5,6))) w':=by
 have hd:=ld (w:=w) [56,56,47,126,62] (5,6)
 have hs:(w.alloc (.cells #[.int .u8 56,.int .u8 56,.int .u8 47,.int .u8 126,.int .u8 62] 5 (5,6))).heap.size=w.heap.size+1:=by simp
 have:=der (w:=w.alloc (.cells #[.int .u8 56,.int .u8 56,.int .u8 47,.int .u8 126,.int .u8 62] 5 (5,6))) 2 (by omega) w.heap.size 0 5 [56,56,47,126,62] 2 (by omega) (by decide) [72,105] ?_
 ·rw[hs]at this
  exact this
 ·intro W hb hsz
  rw[hs]at hb hsz
  have:=fds (w:=W) (bd:=w.heap.size) (off:=0) (cap:=5) (d:=[56,56,47,126,62]) (most:=2) (by omega) ?_ ?_ (by decide) (by decide) (by omega) [56,56,47,0,0] rfl 3 (by omega) (by omega) rfl ?_ ?_ rfl rfl 1214847624 (by decide) (by omega) (by omega)
  ·exact this
  ·intro i hi
   obtain⟨b,o,e1,e2,e3⟩:=hd i hi
   cases e1
   exact(hb.cell (p:=⟨w.heap.size,0+i,none⟩) (by show w.heap.size<_;omega)).trans e3
  ·intro i hi
   have:i<5:=hi
   match i,this with
   |0,_=>decide
   |1,_=>decide
   |2,_=>decide
   |3,_=>decide
   |4,_=>decide
  ·intro i hi
   match i,hi with
   |0,_=>rfl
   |1,_=>rfl
   |2,_=>rfl
  ·intro i hi
   match i,hi with
   |0,_=>decide
   |1,_=>decide
   |2,_=>decide
theorem opo(w:World):Calls Tryz.prog 22 #[] w fun e w'=>e=.returned (.bool true)∧Below w.heap.size w w':=by
 have H1:=hide (ena (w:=w))
 have hcs:=fun(W:World) (C:Array Value) (n c:Nat)=>Lib.run_convert_bytes_const (P:= Tryz.prog) W 23 5 C n c Tryz.underlying23 Tryz.underlying5
 go_enter Tryz.func22,Tryz.ntmps22
 go_wp2_with fail
 refine H1.o.mono ?_
 rintro e w1 ⟨v,rfl,own1,b1⟩
 obtain⟨g,c,rfl,hg⟩:=owf own1 (by omega)
 have O1:=hide own1
 have B1:=hide (((Below.refl w.heap.size w).alloc (Nat.le_refl _) (.cells #[.int .u8 97,.int .u8 97,.int .u8 98] 5 (3,4))).trans (b1.mono (by omega)))
 have hs1:=B1.o.size
 have hgl:=(own1.lt g rfl).2
 clear own1 b1 H1
 have H2:=hide (dh (w:=w1))
 go_wp2_with fail
 refine H2.o.mono ?_
 rintro e w2 ⟨v,rfl,own2,b2⟩
 obtain⟨g2,c2,rfl,hg2⟩:=owf own2 (by omega)
 have B12:Below w1.heap.size w1 w2:=((Below.refl _ _).alloc (Nat.le_refl _) (.cells #[.int .u8 56,.int .u8 56,.int .u8 47,.int .u8 126,.int .u8 62] 5 (5,6))).trans (b2.mono (by omega))
 have O12:=owb O1.o B12
 have s1:(convert 23 9 (.slice (some ⟨g,0,none⟩) 5 c)).run Tryz.prog w2=.ok (.string { data:=#[255,97,0,98,128] }) w2:=so4 O12
 have s2:(convert 23 9 (.slice (some ⟨g2,0,none⟩) 2 c2)).run Tryz.prog w2=.ok (.string { data:=#[72,105] }) w2:=so4 own2
 have B2:=hide (B1.o.trans (B12.mono hs1))
 clear own2 b2 O1 O12 B12 H2 B1
 go_wp2
 go_ret
 exact⟨rfl,B2.o⟩
end
section
open Go.ChangeShapes Go.WideShapes Go.ChangeAt Go.RowKit
theorem Tryz.ownE:ownKnob Tryz.prog.godebug=none:=by kernel_rfl
theorem Tryz.cellsU : Tryz.prog.cellsOf 234=1:=by kernel_rfl
theorem Tryz.gPowT:(Tryz.prog.globals[0]?).map (·.type)=some 275:=by kernel_rfl
theorem Tryz.cellsP : Tryz.prog.cellsOf 275=20:=by kernel_rfl
theorem Tryz.gSyn : Tryz.prog.globalNamed "strconv.ErrSyntax" = some 5:=by kernel_rfl
theorem Tryz.gRng : Tryz.prog.globalNamed "strconv.ErrRange" = some 6:=by kernel_rfl
theorem Tryz.gSynT:(Tryz.prog.globals[5]?).map (·.type)=some 230:=by kernel_rfl
theorem Tryz.gRngT:(Tryz.prog.globals[6]?).map (·.type)=some 230:=by kernel_rfl
theorem Tryz.cellsES : Tryz.prog.cellsOf 324=1:=by kernel_rfl
theorem Tryz.cellsS : Tryz.prog.cellsOf 9=1:=by kernel_rfl
theorem se : "*" ++ "errors.errorString" = "*errors.errorString" :=by decide
theorem Tryz.rowES(u:TypeId)(h : Tryz.prog.typeName? 3 u=some "*errors.errorString"):u = 322:=
 typeName_ptr_named (nm:= "errors.errorString") (by rw[se];kernel_rfl) (by kernel_rfl) (by decide) u (by rw[se];exact h)
theorem mos{W:World}(h:W.ShapedOpen Tryz.prog):∃ m,W.cell? ⟨2,0,none⟩=some (.int .i64 m):=
 cell_of_shapedOpen_int h (t:= 3) (zero:=#[.int .i64 0]) (of_decide_eq_true (by kernel_rfl)) (by kernel_rfl) rfl (by kernel_rfl) (by kernel_rfl) Tryz.underlying3
theorem eol{W:World}{d32 d64 acc ord fst:DataW Unit}(hL:laidMet Tryz.prog [("math/bits.deBruijn32tab",d32),("math/bits.deBruijn64tab",d64),("internal/strconv.uint64pow10",Rows.laid_internal_strconv_uint64pow10),("unicode/utf8.acceptRanges",acc),("strconv.ErrRange",Rows.laid_strconv_ErrRange),("strconv.ErrSyntax",Rows.laid_strconv_ErrSyntax),("folio/filters.lengthOrder",ord),("unicode/utf8.first",fst)] W)(hS:W.ShapedOpen Tryz.prog):Env W.heap.size W:=by
 have h2:laidMet Tryz.prog (("internal/strconv.uint64pow10",Lib.tabData .u64 Lib.pow10Tab)::[("unicode/utf8.acceptRanges",acc),("strconv.ErrRange",Rows.laid_strconv_ErrRange),("strconv.ErrSyntax",Rows.laid_strconv_ErrSyntax),("folio/filters.lengthOrder",ord),("unicode/utf8.first",fst)]) W:=hL.tail.tail
 have hT:=Lib.tabIs_of_head Tryz.gPow Tryz.gPowT Tryz.underlying275 Tryz.underlying234 Tryz.cellsU Tryz.cellsP h2
 obtain⟨a1,s1,v1,_⟩:=laid_sentinel h2.tail.tail Tryz.gRng Tryz.gRngT Tryz.underlying230 Tryz.rowES Tryz.underlying322 Tryz.underlying324 rfl rfl Tryz.underlying9 Tryz.cellsES Tryz.cellsS
 obtain⟨a2,s2,v2,_⟩:=laid_sentinel h2.tail.tail.tail Tryz.gSyn Tryz.gSynT Tryz.underlying230 Tryz.rowES Tryz.underlying322 Tryz.underlying324 rfl rfl Tryz.underlying9 Tryz.cellsES Tryz.cellsS
 have c1:W.cell? ⟨6,0,none⟩=some (.iface 322 (.pointer (some a1))):=by simpa using World.var?_cell Tryz.gRng v1 0
 have c2:W.cell? ⟨5,0,none⟩=some (.iface 322 (.pointer (some a2))):=by simpa using World.var?_cell Tryz.gSyn v2 0
 obtain⟨m,hm⟩:=mos hS
 have hp:=hT.cell Tryz.gPow 0 (by decide)
 exact⟨⟨⟨_,c2,Or.inr ⟨_,_,rfl⟩⟩,⟨_,c1,Or.inr ⟨_,_,rfl⟩⟩,⟨m,hm⟩,World.block_lt_of_cell? W _ c2,World.block_lt_of_cell? W _ c1,World.block_lt_of_cell? W _ hm⟩,hT,World.block_lt_of_cell? W _ hp⟩
theorem hs_{H:Type}{enc:TypeId × Value→H}{a:Assume}{C:Checked}{os:Os}{f:FuncId}{fn:Func}{s:ChangeSpec}{apart fresh handsOn again:Bool}{X:World→Array Value→Prop}
  (hX:∀(w w':World) (args:Array Value),w.heap=w'.heap→X w args→X w' args) (own:ownKnob C.prog.godebug=none) (started:os.Started) (noInit:C.prog.inits.idxOf? f=none) (hfn:C.prog.funcs[f]?=some fn)
  (witness:∃(w:World) (tape:Tape) (i:Input),w.os=os∧(w.forCall tape i).Shaped C.prog∧i.vars=[]∧Input.okWide C.prog (w.forCall tape i) .any w.heap.size f i∧((s.pre enc C.prog fn [] apart (w.forCall tape i).memory i.args∧X (w.forCall tape i).memory i.args)∧sizedMet enc C.prog fn (OpenSpec.ofChange s) apart (w.forCall tape i).memory i.args)∧a.holds C.prog (lone (Frame.enter C.prog f i.args .normal) [] (w.forCall tape i)))
  (does:∀(W:World) (base:Nat) (args:Array Value) (ds gs:List (DataW H)) (before:List MemPlace),(∀(j:Nat) t v,fn.params[j]?=some t→args[j]?=some v→Value.okWide C.prog W .any base t v)→DataW.Whole enc C.prog fn.params.toList s.vars apart W args.toList ds gs before →
   (DataW.weightsEach C.prog (fn.params.toList++s.plain.varTypes C.prog) (ds++gs)).all (· ≤ reachBytes)=true→X W args→W.ShapedOpen C.prog→Calls C.prog f args W fun e W'=>∃ v,e=.returned v∧s.post enc C.prog fn apart fresh handsOn again W args v W') :
  ReturnsInHanded a C os f .any (fun w args=>(s.pre enc C.prog fn [] apart w args∧X w args)∧sizedMet enc C.prog fn (OpenSpec.ofChange s) apart w args) (s.post enc C.prog fn apart fresh handsOn again):=by
 apply returnsInHanded_of_calls own started noInit witness
 intro w tape i _ shape _ fits pre _
 obtain⟨⟨⟨ds,gs,before,whole,_⟩,listed⟩,sizes⟩:=pre
 have whole2:DataW.Whole enc C.prog fn.params.toList s.vars apart (w.forCall tape i) i.args.toList ds gs before:=DataW.Whole.of_heap (by rfl) whole
 have vals:∀(j:Nat) t v,fn.params[j]?=some t→i.args[j]?=some v→Value.okWide C.prog (w.forCall tape i) .any w.heap.size t v:=by
  obtain⟨_,_,_,fn2,hfn2,_,_,_,_,hv⟩:=fits
  rw[hfn]at hfn2
  cases hfn2
  exact hv
 refine(does _ _ _ _ _ _ vals whole2 (sizes.weights whole) (hX _ _ _ (by rfl) listed) shape).mono fun e W' h=>?_
 obtain⟨v,rfl,h⟩:=h
 exact ChangeSpec.post_blind h
theorem iwE{n:Int}(h:(Lit.int .i64 n).wf=true) : -9223372036854775808≤n∧n≤9223372036854775807:=by
 simp[Lit.wf,IntKind.min,IntKind.max,IntKind.signed,IntKind.bits]at h
 omega
end
section
open Go.ChangeShapes Go.WideShapes Go.ChangeAt Go.ChangeMaps Go.RowKit
theorem ff:joinedFacts Tryz.pinned.checked.prog 11 Tryz.f11 Rows.fullSpec Rows.fullRow=true:=by
 unfold joinedFacts
 simp only[Bool.and_eq_true]
 repeat' (with_reducible apply And.intro)
 all_goals as_aux_lemma=>kernel_rfl
theorem fn_ : Tryz.pinned.checked.prog.funcNamed Rows.fullRow.func=some 11:=by kernel_rfl
theorem fi : Tryz.f11.isInstance Tryz.pinned.checked.prog Rows.fullRow.origin Rows.fullRow.targs:=of_decide_eq_true (by kernel_rfl)
theorem fw : Tryz.f11.isWrapper Tryz.pinned.checked.prog Rows.fullRow.wrapper Rows.fullRow.mainSum:=by
 unfold Func.isWrapper
 first | (rw[if_pos (by decide +kernel)];kernel_rfl) | (rw[if_neg (by decide +kernel)];exact⟨rfl,rfl⟩)
end
section
open Go
theorem fuw:Rows.fullRow.wfByText (OpenSpec.ofChange Rows.fullSpec)=true:=by kernel_rfl
theorem fum : Tryz.pinned.checked.prog.mainIs=some (Rows.fullCard.stood.harness.1,Rows.fullCard.stood.harness.2.toList):=by kernel_rfl
theorem fl0:true = Tryz.pinned.checked.prog.looks []:=by kernel_rfl
theorem fg:false=Rows.fullRow.goesBy Tryz.pinned.checked.prog:=by kernel_rfl
end
section
open Go.RowKit Go.Shelf
attribute [local go_sem] Oper.semAt_some
def FilOk(f:Nat):Prop:=f=3∨f=4
theorem FilOk.le{f:Nat}(h:FilOk f):1≤f∧f≤4:=by unfold FilOk at h;omega
def Fil:Type:={ x:Nat // FilOk x }
def Fil.one:Fil:=⟨4,by unfold FilOk;omega⟩
def backF(fs:List Fil)(k:Nat):List (Nat × Fil):=(List.range k).map fun j=>(fs.length-1-j,fs[fs.length-1-j]?.getD Fil.one)
theorem bFs(fs:List Fil)(k:Nat):backF fs (k+1)=backF fs k++[(fs.length-1-k,fs[fs.length-1-k]?.getD Fil.one)]:=by simp[backF,List.range_succ]
theorem bFl(fs:List Fil)(k:Nat):(backF fs k).length=k:=by simp[backF]
theorem bFa(fs:List Fil):(backF fs fs.length).map (fun x=>x.2)=fs.reverse:=by
 apply List.ext_getElem
 ·simp[backF]
 ·intro i h1 h2
  simp[backF]at h1
  have:fs.length-1-i<fs.length:=by omega
  simp[backF,this]
def FilsAt(n₀:Nat)(W:World)(sv:Value)(fs:List Fil):Prop:=
 (sv=.slice none 0 0∧fs=[])∨∃ b cap,sv=.slice (some ⟨b,0,none⟩) fs.length cap∧b<n₀∧∀ j,j<fs.length→W.cell? ⟨b,j,none⟩=some (.int .i64 ((fs[j]?.getD Fil.one).1:Nat))
theorem FilsAt.below{n₀:Nat}{A B:World}(h:Below n₀ A B){sv:Value}{fs:List Fil}:FilsAt n₀ A sv fs→FilsAt n₀ B sv fs
 | .inl e=>.inl e
 | .inr ⟨b,cap,e,hb,hc⟩=>.inr ⟨b,cap,e,hb,fun j hj=>(h.cell (p:=⟨b,j,none⟩) hb).trans (hc j hj)⟩
def BackK(n₀ Bs:Nat)(W W':World):Prop:=Below n₀ W W'∧W'.heap[Bs]?=W.heap[Bs]?
theorem bKt{n₀ Bs:Nat}{A B C:World}(h:BackK n₀ Bs A B)(k:BackK n₀ Bs B C):BackK n₀ Bs A C:=⟨h.1.trans k.1,k.2.trans h.2⟩
theorem bKb{n₀ Bs:Nat}{w:World}(hn:n₀≤w.heap.size)(hs:Bs<w.heap.size)(W:World)(l:Nat)(o o':Obj)(hl:w.heap.size≤l)(h:W.heap[l]?=some o)(h1:o.isCells=false)(h2:o.isWalk=false):BackK n₀ Bs W (W.putObj l o'):=
 ⟨belowK_b hn W l o o' hl h h1 h2,World.putObj_heap_other (by omega)⟩
theorem bai(F:Fence)(n:Nat)(h7:F.fn 287)(hro:F.round=none)(hn:1≤n)(l Bs n₀ b len cap:Nat)(fs:List Fil)(hlen:fs.length=len)(hreach:len≤1000000)(hb:b<n₀)(J Jx:List (Nat × Fil)→World→Prop)
  (hY:∀ pre x W,J pre W→pre.length<len→YieldAt F (n-1) Tryz.prog l #[.int .i64 (x.1:Int),.int .i64 (x.2.1:Nat)] W fun e W' =>
   (e=.returned (.bool true)∧J (pre++[x]) W'∧BackK n₀ Bs W W')∨(e=.returned (.bool false)∧Jx (pre++[x]) W'))
  (W:World) (hBs:W.heap[Bs]?=some (.cells #[.slice (some ⟨b,0,none⟩) len cap] 52 (0,0))) (hc:∀ j,j<len→W.cell? ⟨b,j,none⟩=some (.int .i64 ((fs[j]?.getD Fil.one).1:Nat))) (h0:J [] W) :
  CallsIn F n Tryz.prog 287 #[.func (.yield l) #[] #[],.pointer (some ⟨Bs,0,none⟩)] W fun e W'=>(∃ v,e=.returned v) ∧
   ((∃ ys,ys=backF fs len∧J ys W')∨(∃ pre,True∧Jx pre W')):=by
 refine callsIn_of_wp Tryz.func287 rfl h7 ?_ hro
 simp only[Tryz.ntmps287,List.size_toArray,List.length_cons,List.length_nil,Nat.reduceAdd,Nat.reduceSub,Array.replicate_succ,Array.replicate_zero,List.push_toArray,List.append_toArray,List.nil_append,List.cons_append]
 have hBc:W.cell? ⟨Bs,0,none⟩=some (.slice (some ⟨b,0,none⟩) len cap):=ceb hBs
 gi_wp2
 gi_loopw [3] (fun i wr=>∃ k:Nat,k≤len∧i=.int .i64 ((len:Int)-1-k)∧J (backF fs k) wr∧BackK n₀ Bs W wr)
  (fun i _=>(intOf i+1).toNat)
 case atStart=>exact⟨0,Nat.zero_le _,by simp,h0,Below.refl _ _,rfl⟩
 case round =>
  obtain⟨k,hk,rfl,hJs,hnx⟩:=hrel
  have hBx:wr.cell? ⟨Bs,0,none⟩=some (.slice (some ⟨b,0,none⟩) len cap):=ceb (hnx.2.trans hBs)
  rcases Nat.eq_or_lt_of_le hk with rfl | hlt
  ·rw[show((k:Int)-1-k) = -1 by omega]
   gi_wp2
   go_end0
   exact⟨⟨_,rfl⟩,.inl ⟨_,rfl,hJs⟩⟩
  ·obtain⟨m,hm⟩:∃ m,k+1+m=len:=⟨len-(k+1),by omega⟩
   rw[show((len:Int)-1-k)=(m:Int)by omega]
   have hcx:wr.cell? ⟨b,m,none⟩=some (.int .i64 ((fs[m]?.getD Fil.one).1:Nat)):=(hnx.1.cell (p:=⟨b,m,none⟩) hb).trans (hc m (by omega))
   obtain⟨x,hx⟩:∃ x,fs[m]?.getD Fil.one=x:=⟨_,rfl⟩
   rw[hx]at hcx
   obtain⟨fn,tmps,assign,body,hy,hR⟩:=hY _ (m,x) wr hJs (by rw[bFl];exact hlt)
   dsimp only at hy
   have hm1:m<len:=by omega
   gi_wp2
   refine hR.mono ?_
   rintro e W3 (⟨rfl,hJ3,hk3⟩ | ⟨rfl,hJx3⟩)
   ·gi_wp2
    go_roundw
    case rel=>exact⟨k+1,by omega,by congr 1;omega,by rw[bFs,hlen,show len-1-k=m by omega,hx];exact hJ3,bKt hnx hk3⟩
    case measure=>simp[intOf]
   ·gi_wp2
    refine bodyPost_ret (results_none rfl _ _ _) rfl ?_
    exact⟨⟨_,rfl⟩,.inr ⟨_,trivial,hJx3⟩⟩
theorem bni(F:Fence)(n:Nat)(h7:F.fn 287)(hro:F.round=none)(l Bs:Nat)(J:List (Nat × Fil)→World→Prop)(W:World)(hBs:W.cell? ⟨Bs,0,none⟩=some (.slice none 0 0))(h0:J [] W) :
  CallsIn F n Tryz.prog 287 #[.func (.yield l) #[] #[],.pointer (some ⟨Bs,0,none⟩)] W fun e W'=>(∃ v,e=.returned v)∧J [] W':=by
 refine callsIn_of_wp Tryz.func287 rfl h7 ?_ hro
 simp only[Tryz.ntmps287,List.size_toArray,List.length_cons,List.length_nil,Nat.reduceAdd,Nat.reduceSub,Array.replicate_succ,Array.replicate_zero,List.push_toArray,List.append_toArray,List.nil_append,List.cons_append]
 gi_wp2
 gi_loopw [3] (fun i wr=>i=.int .i64 (-1)∧J [] wr) (fun _ _=>0)
 case atStart=>exact⟨rfl,h0⟩
 case round =>
  obtain⟨rfl,hJs⟩:=hrel
  gi_wp2
  go_end0
  exact⟨⟨_,rfl⟩,hJs⟩
theorem bi_(F:Fence)(n:Nat)(h5:F.fn 234)(hro:F.round=none)(a:Option Addr)(len cap:Nat)(w:World) :
  CallsIn F n Tryz.prog 234 #[.slice a len cap] w fun e w'=>e=.returned (.func (.func 287) #[] #[.pointer (some ⟨w.heap.size,0,none⟩)])∧w'=w.alloc (.cells #[.slice a len cap] 52):=by
 refine callsIn_of_wp Tryz.func234 rfl h5 ?_ hro
 simp only[Tryz.ntmps234,List.size_toArray,List.length_cons,List.length_nil,Nat.reduceAdd,Nat.reduceSub,Array.replicate_succ,Array.replicate_zero,List.push_toArray,List.append_toArray,List.nil_append,List.cons_append]
 gi_wp2
 go_ret
 exact⟨rfl,rfl⟩
theorem bs_(F:Fence)(n:Nat)(h7:F.fn 287)(hro:F.round=none)(hn:1≤n)(Bs n₀:Nat)(sv:Value)(fs:List Fil)(hreach:fs.length≤1000000)(w:World)(hn₀:n₀≤w.heap.size)
  (hc:w.heap[Bs]?=some (.cells #[sv] 52 (0,0))) (hI:FilsAt n₀ w sv fs) :
  SeqStopsK F n Tryz.prog 287 #[.pointer (some ⟨Bs,0,none⟩)] (fun x:Nat × Fil=>#[Value.int .i64 (x.1:Int),Value.int .i64 (x.2.1:Nat)]) (BackK n₀ Bs) (fun ys=>ys=backF fs fs.length)
   (fun pre=>True) fs.length w:=fun l J Jx W hW _ _ hY h0=>by
 have hc':=(hW.block Bs (lt_of_block hc)).trans hc
 rcases hI.below (hW.mono hn₀)with⟨rfl,rfl⟩ | ⟨b,cap,rfl,hb,hcs⟩
 ·exact(bni F n h7 hro l Bs J W (ceb hc') h0).mono fun e W' ⟨he,hj⟩=>⟨he,.inl ⟨_,rfl,hj⟩⟩
 ·exact bai F n h7 hro hn l Bs n₀ b fs.length cap fs rfl hreach hb J Jx hY W hc' hcs h0
end
end Go.Proofs.YtgkljcmjnphpeaaGreatDoor
