import Derived.Test.YtgkljcmjnphpeaaGreatDoorK30
import Derived.Laws.AppendOwnNone
set_option linter.unusedVariables false
set_option linter.unusedSimpArgs false
set_option maxHeartbeats 2000000
set_option maxRecDepth 100000
namespace Go.Proofs.YtgkljcmjnphpeaaGreatDoor
open Go.RowKit
section
variable{w w':World}{B bw bm g1 g2 cap T:Nat}{data:List Nat}{ao:Option Addr}{bs:List Bool}{at_:Nat}{rest:List Value}
theorem Stood.later{a b:Nat}(h:Stood w bm data a)(hab:a≤b)(hn:¬ b+2≤data.length):Stood w bm data b:=by
 obtain⟨es,clock,h1,h2,h5⟩:=h
 refine⟨es,clock,h1,fun e he=>?_,fun ha=>⟨(h5 ha).1,fun p hp hl=>absurd hl (by omega)⟩⟩
 obtain⟨p,p1,p2,p3⟩:=h2 e he
 exact⟨p,p1,by omega,p3⟩
theorem Stood.other{a:Nat}(h:Stood w bm data a)(hb:w'.heap[bm]?=w.heap[bm]?):Stood w' bm data a:=by
 obtain⟨es,clock,h1,h2⟩:=h
 exact⟨es,clock,hb.trans h1,h2⟩
theorem CodeRow.other{g:Nat}{t:List (Nat × Nat)}(h:CodeRow w g t)(hb:w'.heap[g]?=w.heap[g]?):CodeRow w' g t:=by
 obtain⟨C,h1,h2⟩:=h
 exact⟨C,hb.trans h1,h2⟩
theorem Wx.next{a:Value}{x y:Nat}{r:List Value}(h:Wx B bw T (a::.int .i64 x::r) w bs):Wx B bw T (a::.int .i64 y::r) (w.setCell ⟨bw,3,none⟩ (.int .i64 y)) bs:=by
 obtain⟨ov,out,used,⟨h1,h2,h3,h4⟩,h5⟩:=h
 refine⟨ov,out,used,⟨h1,h2,?_,?_⟩,h5⟩
 ·rw[bsC _ h3];simp
 ·exact ownsRow_setCell_other h4 (own_ne h4 h3 h2) _
theorem Wx.other(h:Wx B bw T rest w bs)(hb:∀(k:Nat) (c:Array Value) (t:TypeId) (fz:Nat × Nat),w.heap[k]?=some (Obj.cells c t fz)→w'.heap[k]?=some (Obj.cells c t fz)):Wx B bw T rest w' bs:=by
 obtain⟨ov,out,used,⟨h1,h2,h3,h4,h4'⟩,h5⟩:=h
 refine⟨ov,out,used,⟨h1,h2,hb _ _ _ _ h3,h4,?_⟩,h5⟩
 rcases h4' with h4' | ⟨g,c,cur,e1,e2,hh,hc⟩
 ·exact Or.inl h4'
 ·exact Or.inr ⟨g,c,cur,e1,e2,hb _ _ _ _ hh,hc⟩
theorem De.ne(h:De B bw bm g1 g2 cap data ao w bs at_):bm≠bw∧g1≠bw∧g2≠bw∧bm<w.heap.size:=by
 obtain⟨ov,out,used,⟨h1,h2,h3,h4⟩,h5⟩:=h.wx
 obtain⟨es,clock,m1,_⟩:=h.st
 obtain⟨C1,r1,_⟩:=h.r1
 obtain⟨C2,r2,_⟩:=h.r2
 refine⟨fun e=>?_,fun e=>?_,fun e=>?_,lt_of_block m1⟩
 ·subst e;rw[m1]at h3;cases h3
 ·subst e;rw[r1]at h3;simp at h3
 ·subst e;rw[r2]at h3;simp at h3
theorem De.go(h:De B bw bm g1 g2 cap data ao w bs at_)(hlt:at_<data.length)(hno:¬ at_+3≤data.length):De B bw bm g1 g2 cap data ao (w.setCell ⟨bw,3,none⟩ (.int .i64 (at_+1:Nat))) bs (at_+1)∧Kept 5 B [bw,bm] w (w.setCell ⟨bw,3,none⟩ (.int .i64 (at_+1:Nat))):=by
 obtain⟨n1,n2,n3,_⟩:=h.ne
 obtain⟨_,_,_,_,_,hbw,_⟩:=h.cells
 exact⟨⟨h.wx.next,h.dat.other (fun k hk=>bsCn _ (by omega)),h.byt,h.len,h.lc,hlt,(h.st.later (by omega) (by omega)).other (bsCn _ n1),h.r1.other (bsCn _ n2),h.r2.other (bsCn _ n3),h.hbm⟩,(Kept.refl _ _ _ _).setCell (by simp) _⟩
theorem De.upd(h:De B bw bm g1 g2 cap data ao w bs at_)(hk:at_+3≤data.length) :
  ∃ w3,(Instr.mapUpdate 191 (.map (some bm)) (key3 (nth data at_) (nth data (at_+1)) (nth data (at_+2))) (.int .i64 (at_:Int))).run Tryz.prog w=.ok () w3∧w3.cell? ⟨bw,3,none⟩=some (.int .i64 at_)∧w3.frozen? ⟨bw,3,none⟩=false ∧
   De B bw bm g1 g2 cap data ao (w3.setCell ⟨bw,3,none⟩ (.int .i64 (at_+1:Nat))) bs (at_+1)∧Kept 5 B [bw,bm] w (w3.setCell ⟨bw,3,none⟩ (.int .i64 (at_+1:Nat))):=by
 obtain⟨es,hup,hst⟩:=h.st.put h.byt hk
 obtain⟨n1,n2,n3,n4⟩:=h.ne
 obtain⟨es0,clock,m1,_⟩:=h.st
 have hoth:∀ k,k≠bm→({ w with heap:=w.heap.setIfInBounds bm es }:World).heap[k]?=w.heap[k]?:=fun k hk=>Array.getElem?_setIfInBounds_ne (fun e=>hk e.symm)
 have hcell:∀(k:Nat) (c:Array Value) (t:TypeId) (fz:Nat × Nat),w.heap[k]?=some (Obj.cells c t fz)→({ w with heap:=w.heap.setIfInBounds bm es }:World).heap[k]?=some (Obj.cells c t fz):=by
  intro k c t fz hc
  rw[hoth k (fun e=>by subst e;rw[m1]at hc;cases hc)];exact hc
 refine⟨_,hup,?_⟩
 have hsz:({ w with heap:=w.heap.setIfInBounds bm es }:World).heap.size=w.heap.size:=Array.size_setIfInBounds
 have hK:Kept 5 B [bw,bm] w { w with heap:=w.heap.setIfInBounds bm es }:=⟨rfl,rfl,rfl,Nat.le_of_eq hsz.symm,fun k o hk ho _=>by rw[hoth k (by simp at hk;exact hk.2)];exact ho⟩
 generalize ({ w with heap:=w.heap.setIfInBounds bm es }:World)=w3 at *
 have hwx:=h.wx.other hcell
 obtain⟨_,_,_,_,_,hbw,_⟩:=h.cells
 have hB:=h.hbm
 have hr1:CodeRow w3 g1 Fo.tabF:=by obtain⟨C,c1,c2⟩:=h.r1;exact⟨C,hcell _ _ _ _ c1,c2⟩
 have hr2:CodeRow w3 g2 Fo.tadF:=by obtain⟨C,c1,c2⟩:=h.r2;exact⟨C,hcell _ _ _ _ c1,c2⟩
 have hdat:Dat w3 B ao data:=h.dat.other (fun k hk=>hoth k (by omega))
 refine⟨?_,?_,⟨hwx.next,hdat.other (fun k hk=>bsCn _ (by omega)),h.byt,h.len,h.lc,by omega,hst.other (bsCn _ n1),hr1.other (bsCn _ n2),hr2.other (bsCn _ n3),hB⟩,hK.setCell (by simp) _⟩
 ·obtain⟨ov,out,used,hq,_⟩:=hwx
  rw[ceb hq.blk];simp
 ·obtain⟨ov,out,used,hq,_⟩:=hwx
  exact frb hq.blk
theorem Kept.thenBelow{e B:Nat}{S:List Nat}{a b c:World}(h:Kept e B S a b)(k:Below b.heap.size b c):Kept e B S a c:=
 h.trans ⟨k.os,k.tape,k.output,k.size,fun i o _ ho _=>by rw[k.block i (lt_of_block ho)];exact ho⟩
theorem De.drewN(h:De B bw bm g1 g2 cap data ao w bs at_)(n:Nat):De B bw bm g1 g2 cap data ao (w.drewN n) bs at_:=h.below (bedN (Below.refl _ _) n)
theorem so_3(n:Nat)(h:De B bw bm g1 g2 cap data ao w bs at_)(hn:at_+n≤data.length) :
  Calls Tryz.prog 264 #[.pointer (some ⟨bw,0,none⟩),.int .i64 n] w fun e w'=>e=.returned (.tuple #[])∧De B bw bm g1 g2 cap data ao w' bs (at_+n)∧Kept 5 B [bw,bm] w w':=by
 have hlen:=h.len
 go_enter Tryz.func264,Tryz.ntmps264
 go_wp2
 go_loopw [5] (fun i wr=>∃ k:Nat,k≤n∧i=.int .i64 k∧De B bw bm g1 g2 cap data ao wr bs (at_+k)∧Kept 5 B [bw,bm] w wr) (fun i _=>n-(intOf i).toNat)
 case atStart=>exact⟨0,Nat.zero_le _,rfl,h,Kept.refl _ _ _ _⟩
 clear h
 case round =>
  obtain⟨k,hk,rfl,hf,kk⟩:=hrel
  have H:=hide hf
  clear hf
  by_cases hlt:k<n
  ·have HA:Hid (∀ a,at_+k=a→at_+(k+1)=a+1):=fun a ha=>by omega
   generalize ha:at_+k=a at *
   have HA2:=hide (HA.o a rfl)
   have hal:a<data.length:=by omega
   clear HA
   by_cases hk3:a+3≤data.length
   ·clear ha
    go_wp2_with (go_at_call 311;refine(hKi H.o true (decide_eq_true hk3)).mono ?_;rintro e w1 ⟨rfl,q,rfl⟩)
    have H1:=hide (H.o.drewN q)
    have K1:=hide (kk.drewN q)
    generalize hwq:wr.drewN q=w1 at *
    clear hwq kk H
    obtain⟨c2,c3,c4,_,_,hbw,hlt',_⟩:=H1.o.cells
    have HD:Hid (De B bw bm g1 g2 cap data ao w1.drew bs a):=hide (H1.o.below (Below.refl _ _).drew)
    go_region_with (go_at_call 312;refine(ko_ HD.o hk3).mono ?_;rintro e w2 ⟨rfl,b2⟩;have H2:=hide (HD.o.below b2);have hc3:=H2.o.cells.2.1;have hc4:=H2.o.cells.2.2.1;obtain⟨w3,hup,d3,f3,hde,hkp⟩:=H2.o.upd hk3;have HE:=hide hde;have HKP:=hide hkp;clear hde hkp)
    all_goals (clear hup hc3 hc4 c2 c3 c4 HD H1 H2;have B2:=hide b2;clear b2;go_wp2)
    all_goals (
     go_roundw
     case rel=>exact⟨k+1,by omega,by go_num,by rw[HA2.o];exact HE.o,(Kept.thenBelow (Kept.thenBelow K1.o (Below.refl _ _).drew) B2.o).trans HKP.o⟩
     case measure=>simp[intOf];omega)
   ·clear ha
    go_wp2_with (go_at_call 311;refine(hKi H.o false (decide_eq_false hk3)).mono ?_;rintro e w1 ⟨rfl,q,rfl⟩;have H1:=hide (H.o.drewN q);have K1:=hide (kk.drewN q);generalize hwq:wr.drewN q=w1 at *;clear hwq kk H;obtain⟨_,c3,_,_,_,_,_,f3⟩:=H1.o.cells)
    have HG:=hide (H1.o.go hal hk3)
    go_roundw
    case rel=>exact⟨k+1,by omega,by go_num,by rw[HA2.o];exact HG.o.1,K1.o.trans HG.o.2⟩
    case measure=>simp[intOf];omega
  ·obtain rfl:k=n:=by omega
   go_wp2
   go_end0
   exact⟨rfl,H.o,kk⟩
end
section
variable{w:World}{B bw cap T:Nat}{data:List Nat}{ao:Option Addr}{bs:List Bool}{rest:List Value}
theorem Dat.kept{S:List Nat}{w':World}(h:Dat w B ao data)(k:Kept 5 B S w w')(hS:∀ x∈S,B≤x):Dat w' B ao data:=by
 intro i hi
 obtain⟨b,o,e1,e2,e3⟩:=h i hi
 exact⟨b,o,e1,e2,k.cell hS e2 e3⟩
theorem nlm{l:List Nat}(h:∀ i,i<l.length→nth l i<256):∀ x∈l,x<256:=by
 intro x hx
 obtain⟨i,hi,rfl⟩:=List.getElem_of_mem hx
 have:=h i hi
 simpa[nth,hi]using this
theorem sBo(h:Wx B bw 190 [] w bs)(last:Nat)(hlast:last≤1)(hd:Dat w B ao data)(byt:∀ i,i<data.length→nth data i<256)(len:data.length≤65535)(hn:ao=none→cap=0)(hl:bs.length≤4000000) :
  Calls Tryz.prog 206 #[.pointer (some ⟨bw,0,none⟩),.int .i64 last,.slice ao data.length cap] w fun e w'=>e=.returned (.tuple #[]) ∧
   Wx B bw 190 [] w' (bs++Fo.numBits 1 last++Fo.numBits 2 0++List.replicate ((8-(bs++Fo.numBits 1 last++Fo.numBits 2 0).length%8)%8) false++Fo.numBits 16 data.length++Fo.numBits 16 (65535-data.length)++Fo.bitsOf data)∧Kept 5 B [bw] w w':=by
 obtain⟨i0,hi,hz0,hz1,hz2⟩:=info_parts Tryz.infoByte
 have hbw:B≤bw:=by obtain⟨_,_,_,hq,_⟩:=h;exact hq.hb
 have HD:=hide hd
 have BYT:=hide byt
 clear hd byt
 go_enter Tryz.func206,Tryz.ntmps206
 go_wp2_with fail
 refine(wbo h last 1 (by omega) (by omega) (by omega)).mono ?_
 rintro e w1 ⟨rfl,h1,k1⟩
 go_wp2_with fail
 refine(wbo h1 0 2 (by omega) (by omega) (by simp only[List.length_append,Fo.numBits_length];omega)).mono ?_
 rintro e w2 ⟨rfl,h2,k2⟩
 go_wp2_with fail
 refine(wao h2).mono ?_
 rintro e w3 ⟨rfl,h3,k3⟩
 have hlen3:(bs++Fo.numBits 1 last++Fo.numBits 2 0++List.replicate ((8-(bs++Fo.numBits 1 last++Fo.numBits 2 0).length%8)%8) false).length≤4000100∧(bs++Fo.numBits 1 last++Fo.numBits 2 0++List.replicate ((8-(bs++Fo.numBits 1 last++Fo.numBits 2 0).length%8)%8) false).length%8=0:=by
  simp only[List.length_append,Fo.numBits_length,List.length_replicate];omega
 generalize hcs:bs++Fo.numBits 1 last++Fo.numBits 2 0++List.replicate ((8-(bs++Fo.numBits 1 last++Fo.numBits 2 0).length%8)%8) false=cs at *
 have HCS:=hide hcs
 clear hcs
 have kk:=(k1.trans k2).trans k3
 clear h h1 h2 k1 k2 k3
 go_wp2_with fail
 refine(wbo h3 data.length 16 (by omega) (by omega) (by omega)).mono ?_
 rintro e w4 ⟨rfl,h4,k4⟩
 go_wp2_with fail
 rw[show(65535:Int)-(data.length:Int)=((65535-data.length:Nat):Int)by omega]
 refine(wbo h4 (65535-data.length) 16 (by omega) (by omega) (by simp only[List.length_append,Fo.numBits_length];omega)).mono ?_
 rintro e w5 ⟨rfl,h5,k5⟩
 have kk5:=(kk.trans k4).trans k5
 clear kk k4 k5 h3 h4
 have hal:(cs++Fo.numBits 16 data.length++Fo.numBits 16 (65535-data.length)).length≤4000200∧(cs++Fo.numBits 16 data.length++Fo.numBits 16 (65535-data.length)).length%8=0:=by
  simp only[List.length_append,Fo.numBits_length];omega
 obtain⟨ov,out,used,hq,hb⟩:=h5
 generalize hds:cs++Fo.numBits 16 data.length++Fo.numBits 16 (65535-data.length)=ds at *
 have HDS:=hide hds
 clear hds
 have hol:out.length≤600000:=by have:=bwl hb;omega
 obtain rfl:used=0:=by rw[←hb.2.1];exact hal.2
 have HDK:=hide (HD.o.kept kk5 (by simpa using hbw))
 have HBB:=hide (hb.bytes data (nlm BYT.o))
 have c0:=hq.c0
 have hsz:=hq.sz
 have KK5:=hide kk5
 clear kk5 hb HD
 cases ao with
 |none =>
  obtain rfl:=hn rfl
  have h0:data=[]:=by
   cases hdd:data with
   |nil=>rfl
   |cons x xs =>
    obtain⟨b,o,e1,_⟩:=HDK.o 0 (by rw[hdd];simp)
    cases e1
  subst h0
  have f0:=hq.fz 0
  obtain⟨a1,c1,rfl⟩:=ows hq.own
  have HQ:=hide hq
  clear hq hn
  go_wp2_with (at_builtin;refine wpList_append_own_none rfl (.tmp 26) (.tmp 27) 23 rfl B 5 i0 1 Tryz.underlying23 hi (.slice a1 out.length c1) out.length _ rfl HQ.o.own rfl ?_)
  go_end0
  refine⟨rfl,?_,(KK5.o).setCell (by simp) _⟩
  rw[HCS.o,HDS.o]
  refine⟨.slice a1 out.length c1,out++[],0,⟨HQ.o.hb,HQ.o.hT,?_,?_⟩,HBB.o⟩
  ·rw[bsC _ HQ.o.blk];simp
  ·rw[List.append_nil];exact ownsRow_setCell_other HQ.o.own (own_ne HQ.o.own HQ.o.blk HQ.o.hT) _
 |some ad =>
  have HQ:=hide hq
  obtain⟨a1,c1,rfl⟩:=ows hq.own
  clear hq hn
  go_wp2_with (at_builtin;refine wpList_append_own _ rfl (.tmp 26) (.tmp 27) 23 rfl B 5 i0 (.int .u8 0) 1 1 Tryz.underlying23 hi hz0 hz1 hz2 rfl (by decide) (.slice a1 out.length c1) out.length _ rfl HQ.o.own ad data.length cap (data.map fun x:Nat=>.int .u8 (x:Int)) rfl (by simp) ?hnews ?hone ?h63 ?hby ?hbs ?_)
  case hnews =>
   intro j u hu
   obtain⟨hj,rfl⟩:=List.getElem?_eq_some_iff.1 hu
   rw[List.length_map]at hj
   obtain⟨b,o,e1,_,e3⟩:=HDK.o j hj
   cases e1
   rw[ada,e3]
   simp[nth,hj]
  case hone=>intro u hu;simp at hu;obtain⟨x,_,rfl⟩:=hu;rfl
  case h63=>unfold maxLen;omega
  case hby=>omega
  case hbs=>omega
  intro v' w6 hown hg0 _
  obtain⟨a2,c2,rfl⟩:=ows hown
  obtain⟨q,k,d0,f0⟩:=HQ.o.app (xs:=data) (by simpa using hown) hg0
  have Q6:=hide q
  have K6:=hide k
  clear hown hg0 q k
  go_wp2
  go_end0
  refine⟨rfl,?_,KK5.o.trans K6.o⟩
  rw[HCS.o,HDS.o]
  exact⟨_,out++data,0,Q6.o,HBB.o⟩
def sB(data:List Nat):List Bool:=true::(Fo.numBits 2 0++(List.replicate 5 false++(Fo.numBits 16 data.length++(Fo.numBits 16 (65535-data.length)++Fo.bitsOf data))))
theorem sBe(data:List Nat):[]++Fo.numBits 1 1++Fo.numBits 2 0++List.replicate ((8-([]++Fo.numBits 1 1++Fo.numBits 2 0).length%8)%8) false++Fo.numBits 16 data.length++Fo.numBits 16 (65535-data.length)++Fo.bitsOf data=sB data:=by
 unfold sB
 have e5:(8-(([]:List Bool)++Fo.numBits 1 1++Fo.numBits 2 0).length%8)%8=5:=rfl
 rw[e5]
 simp only[List.append_assoc,List.nil_append];rfl
theorem wso(hd:Dat w B ao data)(hB:B≤w.heap.size)(byt:∀ i,i<data.length→nth data i<256)(len:data.length≤65535)(hn:ao=none→cap=0) :
  Calls Tryz.prog 148 #[.slice ao data.length cap] w fun e w'=>∃(ov:Value) (out:List Nat),e=.returned ov∧w'.ownsRow w.heap.size 5 1 ov out.length (out.map fun x:Nat=>.int .u8 (x:Int))∧Below w.heap.size w w'∧Fo.BW out 0 (sB data):=by
 have hx:Wx w.heap.size w.heap.size 190 [] (w.alloc (.cells #[.slice none 0 0,.int .i64 0] 190)) []:=⟨.slice none 0 0,[],0,⟨Nat.le_refl _,by decide,bln _ _,World.ownsRow_nil _ _ _ _⟩,Fo.BW.nil⟩
 have hd':Dat (w.alloc (.cells #[.slice none 0 0,.int .i64 0] 190)) w.heap.size ao data:=by
  intro i hi
  obtain⟨b,o,e1,e2,e3⟩:=hd i hi
  exact⟨b,o,e1,by omega,by rw[World.cell?_alloc_lt _ _ _ (by show b<_;omega)];exact e3⟩
 have HC:=hide (sBo hx 1 (by omega) hd' byt len hn (by simp))
 rw[sBe]at HC
 clear hd hd' byt hx
 go_enter Tryz.func148,Tryz.ntmps148
 go_wp2
 go_loopw [0] (fun d wr=>d=.slice ao data.length cap∧wr=w.alloc (.cells #[.slice none 0 0,.int .i64 0] 190)) (fun _ _=>0)
 case atStart=>exact⟨rfl,rfl⟩
 case round =>
  obtain⟨rfl,rfl⟩:=hrel
  have hlt:¬ (65535:Int)<data.length:=by omega
  go_wp2_with fail
  refine HC.o.mono ?_
  rintro e w1 ⟨rfl,⟨ov,out,used,hq,hb⟩,k1⟩
  have c0:=hq.c0
  obtain rfl:used=0:=by
   rw[←hb.2.1];unfold sB
   simp only[List.length_cons,List.length_append,Fo.numBits_length,List.length_replicate,Fo.bitsOf_length];omega
  go_wp2
  go_ret
  exact⟨ov,out,rfl,hq.own,((Below.refl _ _).alloc (Nat.le_refl _) _).trans (k1.below (by simp) (by simp)),hb⟩
end
section
variable{w:World}{B cap:Nat}{ao:Option Addr}{data:List Nat}
theorem rGs{f:Nat}{l:List Nat}(h0:0<l.length)(h:1<Fo.sameN l):Fo.runGo (f+1) l=(257-Fo.sameN l)::nth l 0::Fo.runGo f (l.drop (Fo.sameN l)):=by
 rw[Fo.runGo,if_neg (by omega),if_pos h]
theorem rGm{f:Nat}{l:List Nat}(h0:0<l.length)(h:¬ 1<Fo.sameN l):Fo.runGo (f+1) l=(Fo.mixN l-1)::(l.take (Fo.mixN l)++Fo.runGo f (l.drop (Fo.mixN l))):=by
 rw[Fo.runGo,if_neg (by omega),if_neg h]
theorem rGe{f:Nat}{l:List Nat}(h0:l.length=0):Fo.runGo f l=[128]:=by
 cases f with
 |zero=>rfl
 |succ f=>rw[Fo.runGo,if_pos h0]
def sL:Value→Nat
 | .slice _ n _=>n
 |_=>0
theorem news1{w:World}{a:Nat}{x:Int}(ex:x=a):∀ j u,([a].map fun x:Nat=>Value.int .u8 (x:Int))[j]?=some u→(w.alloc (.cells #[.int .u8 x] 5)).cell? ((⟨w.heap.size,0,none⟩:Addr).add j)=some u:=by
 subst ex
 intro j u hu
 match j,hu with
 |0,hu=>rw[aa,World.cell?_alloc_new];exact hu
 |j+1,hu=>simp at hu
theorem news2{w:World}{a b:Nat}{x y:Int}(ex:x=a)(ey:y=b):∀ j u,([a,b].map fun x:Nat=>Value.int .u8 (x:Int))[j]?=some u→(w.alloc (.cells #[.int .u8 x,.int .u8 y] 5)).cell? ((⟨w.heap.size,0,none⟩:Addr).add j)=some u:=by
 subst ex ey
 intro j u hu
 match j,hu with
 |0,hu=>rw[aa,World.cell?_alloc_new];exact hu
 |1,hu=>rw[aa,World.cell?_alloc_new];exact hu
 |j+2,hu=>simp at hu
theorem Dat.drop{l:List Nat}{b o:Nat}(h:Dat w B (some ⟨b,o,none⟩) l)(p:Nat):Dat w B (some ⟨b,o+p,none⟩) (l.drop p):=by
 intro i hi
 rw[List.length_drop]at hi
 obtain⟨b',o',e1,e2,e3⟩:=h (p+i) (by omega)
 cases e1
 refine⟨b,o+p,rfl,e2,?_⟩
 rw[Nat.add_assoc,e3]
 simp[nth,List.getElem?_drop]
theorem Dat.news{l:List Nat}{b o:Nat}(h:Dat w B (some ⟨b,o,none⟩) l)(n:Nat)(hn:n≤l.length):∀ j u,((l.take n).map fun x:Nat=>Value.int .u8 (x:Int))[j]?=some u→w.cell? ((⟨b,o,none⟩:Addr).add j)=some u:=by
 intro j u hu
 obtain⟨hj,rfl⟩:=List.getElem?_eq_some_iff.1 hu
 rw[List.length_map,List.length_take]at hj
 obtain⟨b',o',e1,_,e3⟩:=h j (by omega)
 cases e1
 rw[ada,e3]
 simp[nth,List.getElem?_eq_getElem (show j<l.length by omega)]
theorem eRs{b o:Nat}(hd:Dat w B (some ⟨b,o,none⟩) data)(hB:B≤w.heap.size)(byt:∀ i,i<data.length→nth data i<256)(len:data.length≤200000)(lc:data.length≤cap∧cap≤9223372036854775807) :
  Calls Tryz.prog 103 #[.slice (some ⟨b,o,none⟩) data.length cap] w fun e w'=>∃ v,e=.returned v∧w'.ownsRow B 5 1 v (Fo.encRun data).length ((Fo.encRun data).map fun x:Nat=>.int .u8 (x:Int))∧Kept 5 B [] w w':=by
 obtain⟨i0,hi,hz0,hz1,hz2⟩:=info_parts Tryz.infoByte
 have HR:Hid (Fo.runGo (data.length+1) (data.drop 0)=Fo.encRun data):=hide rfl
 have HD:=hide hd
 have BYT:=hide byt
 generalize Fo.encRun data=R at *
 clear hd byt
 go_enter Tryz.func103,Tryz.ntmps103
 go_wp2
 go_loopw [0,3] (fun d v wr=>∃(p f:Nat) (out:List Nat) (pt:Addr),p≤data.length∧data.length-p<f∧d=.slice (some pt) (data.length-p) (cap-p)∧(p<data.length→pt=⟨b,o+p,none⟩)∧Hid (out++Fo.runGo f (data.drop p)=R)∧out.length≤2*p∧wr.ownsRow B 5 1 v out.length (out.map fun x:Nat=>.int .u8 (x:Int))∧Kept 5 B [] w wr) (fun d _ _=>sL d)
 case atStart=>exact⟨0,data.length+1,[],⟨b,o,none⟩,by omega,by omega,rfl,fun _=>rfl,HR,by simp,World.ownsRow_nil _ _ _ _,Kept.refl _ _ _ _⟩
 clear HR
 case round =>
  obtain⟨p,f,out,pt,hp,hf,rfl,hpt,HRR,hol,hr,kk⟩:=hrel
  obtain⟨a0,c0,rfl⟩:=ows hr
  have HO:=hide hr
  have KK:=hide kk
  have hsz:=kk.size
  clear hr kk
  by_cases hz:p<data.length
  ·obtain⟨f',rfl⟩:∃ f',f=f'+1:=⟨f-1,by omega⟩
   obtain rfl:=hpt hz
   have HDw:=hide ((HD.o.kept KK.o (by simp)).drop p)
   have HBl:Hid (∀ i,i<(data.drop p).length→nth (data.drop p) i<256):=by
    intro i hi
    rw[List.length_drop]at hi
    have:=BYT.o (p+i) (by omega)
    simpa[nth,List.getElem?_drop]using this
   have hll:data.length-p=(data.drop p).length:=by rw[List.length_drop]
   have HDR:Hid (∀ n,(data.drop p).drop n=data.drop (p+n)):=fun n=>by rw[List.drop_drop]
   rw[hll]
   generalize data.drop p=l at *
   have HLL:=hide hll
   have h0:0<l.length:=by omega
   have h0':(0:Int)<l.length:=by omega
   have hll1:l.length≤200000:=by omega
   have hcap:l.length≤cap-p:=by omega
   clear hll
   have HSN:=hide (Fo.sameN_le l h0)
   have HSm:=hide (saAo (cap:=cap-p) HDw.o (by omega) (by omega) h0)
   have HE1:Hid (1<Fo.sameN l→Fo.runGo (f'+1) l=(257-Fo.sameN l)::nth l 0::Fo.runGo f' (l.drop (Fo.sameN l))):=fun h=>rGs h0 h
   have HE2:Hid (¬ 1<Fo.sameN l→(1≤Fo.mixN l∧Fo.mixN l≤128∧Fo.mixN l≤l.length)∧Fo.runGo (f'+1) l=(Fo.mixN l-1)::(l.take (Fo.mixN l)++Fo.runGo f' (l.drop (Fo.mixN l)))):=fun h=>⟨Fo.mixN_le l h0 h,rGm h0 h⟩
   generalize Fo.sameN l=S at *
   go_wp2_with fail
   refine HSm.o.mono ?_
   rintro e w1 ⟨rfl,b1⟩
   have HO1:=hide (owb HO.o b1)
   have HD1:=hide (HDw.o.below b1)
   have K1:=hide (Kept.thenBelow KK.o b1)
   have hsz1:B≤w1.heap.size:=by have:=b1.size;omega
   clear HO KK b1 HSm HDw
   by_cases hs:1<S
   ·have hs':(1:Int)<S:=by omega
    obtain⟨s1,s2,s3⟩:=HSN.o
    have HE:=hide (HE1.o hs)
    have d0:w1.cell? ⟨b,o+p,none⟩=some (.int .u8 (nth l 0:Nat)):=by
     obtain⟨b',o',e1,_,e3⟩:=HD1.o 0 h0
     cases e1
     exact e3
    have hx:=HBl.o 0 h0
    clear HE1 HE2 HSN
    generalize nth l 0=X at *
    go_wp2_with (at_builtin;refine wpList_append_own _ rfl (.tmp 12) (.tmp 19) 23 rfl B 5 i0 (.int .u8 0) 1 1 Tryz.underlying23 hi hz0 hz1 hz2 rfl (by decide) (.slice a0 out.length c0) out.length _ rfl (HO1.o.alloc _) ⟨w1.heap.size,0,none⟩ 2 2 ([257-S,X].map fun x:Nat=>.int .u8 (x:Int)) rfl rfl ?hnews ?hone ?h63 ?hby ?hbs ?_)
    case hnews=>exact news2 (by omega) rfl
    case hone=>intro u hu;simp at hu;rcases hu with rfl | rfl<;>rfl
    case h63=>unfold maxLen;omega
    case hby=>omega
    case hbs=>simp;omega
    intro v' w2 hr2 hg2 _
    have K2:=hide ((K1.o.alloc _).grown hg2 (owr (HO1.o.alloc _)))
    have HR2:=hide hr2
    obtain⟨a2,c2,rfl⟩:=ows hr2
    clear hr2 hg2 HO1 K1
    go_wp2
    go_roundw
    case rel =>
     have hL:=HLL.o
     refine⟨p+S,f',out++[257-S,X],if cap-p=S then⟨b,o+p,none⟩else⟨b,o+p+S,none⟩,by omega,by omega,?_,?_,?_,?_,?_,K2.o⟩
     ·rw[show data.length-(p+S)=l.length-S by omega,show cap-(p+S)=cap-p-S by omega]
      split<;>rfl
     ·intro hlt
      rw[if_neg (by omega),Nat.add_assoc]
     ·rw[←HDR.o,←HRR.o,HE.o,List.append_assoc];rfl
     ·rw[List.length_append];show _+2≤_;omega
     ·rw[List.map_append,List.length_append];exact HR2.o
    case measure=>simp[sL];omega
   ·have hs':¬ (1:Int)<S:=by omega
    obtain⟨⟨m1,m2,m3⟩,hE⟩:=HE2.o hs
    have HE:=hide hE
    have HMx:=hide (mAo (cap:=cap-p) HD1.o (by omega) hsz1)
    clear HE1 HE2 hE
    generalize Fo.mixN l=M at *
    go_wp2_with fail
    refine HMx.o.mono ?_
    rintro e w2 ⟨rfl,b2⟩
    have HO2:=hide (owb HO1.o b2)
    have HD2:=hide (HD1.o.below b2)
    have K2:=hide (Kept.thenBelow K1.o b2)
    have hsz2:B≤w2.heap.size:=by have:=b2.size;omega
    clear HO1 K1 b2 HMx HD1
    have tok:True:=trivial
    go_wp2_with (at_builtin;have _t:=tok;refine wpList_append_own _ rfl (.tmp 23) (.tmp 27) 23 rfl B 5 i0 (.int .u8 0) 1 1 Tryz.underlying23 hi hz0 hz1 hz2 rfl (by decide) (.slice a0 out.length c0) out.length _ rfl (HO2.o.alloc _) ⟨w2.heap.size,0,none⟩ 1 1 ([M-1].map fun x:Nat=>.int .u8 (x:Int)) rfl rfl ?hnews ?hone ?h63 ?hby ?hbs ?_;clear tok)
    case hnews=>exact news1 (by omega)
    case hone=>intro u hu;simp at hu;subst hu;rfl
    case h63=>unfold maxLen;omega
    case hby=>omega
    case hbs=>simp;omega
    intro v' w3 hr3 hg3 _
    have K3:=hide ((K2.o.alloc _).grown hg3 (owr (HO2.o.alloc _)))
    have HD3:=hide ((HD2.o.below ((Below.refl _ _).alloc (Nat.le_refl _) _)).kept ((Kept.refl 5 B [] _).grown hg3 (owr (HO2.o.alloc _))) (by simp))
    have HR3:=hide hr3
    obtain⟨a3,c3,rfl⟩:=ows hr3
    have hsz3:B≤w3.heap.size:=by have:=hg3.size;simp at this;omega
    clear hr3 hg3 HO2 K2
    go_wp2_with (at_builtin;refine wpList_append_own _ rfl (.tmp 29) (.tmp 32) 23 rfl B 5 i0 (.int .u8 0) 1 1 Tryz.underlying23 hi hz0 hz1 hz2 rfl (by decide) (.slice a3 (out.length+1) c3) (out.length+1) _ rfl HR3.o ⟨b,o+p,none⟩ M (cap-p) ((l.take M).map fun x:Nat=>.int .u8 (x:Int)) rfl (by rw[List.length_map,List.length_take];omega) ?hnews ?hone ?h63 ?hby ?hbs ?_)
    case hnews=>exact HD3.o.news M m3
    case hone=>intro u hu;obtain⟨x,_,rfl⟩:=List.mem_map.1 hu;rfl
    case h63=>unfold maxLen;omega
    case hby=>omega
    case hbs=>omega
    intro v' w4 hr4 hg4 _
    have K4:=hide (K3.o.grown hg4 (owr HR3.o))
    have HR4:=hide hr4
    obtain⟨a4,c4,rfl⟩:=ows hr4
    clear hr4 hg4 HR3 K3
    go_wp2
    go_roundw
    case rel =>
     have hL:=HLL.o
     refine⟨p+M,f',out++[M-1]++l.take M,if cap-p=M then⟨b,o+p,none⟩else⟨b,o+p+M,none⟩,by omega,by omega,?_,?_,?_,?_,?_,K4.o⟩
     ·rw[show data.length-(p+M)=l.length-M by omega,show cap-(p+M)=cap-p-M by omega]
      split<;>rfl
     ·intro hlt
      rw[if_neg (by omega),Nat.add_assoc]
     ·rw[←HDR.o,←HRR.o,HE.o,List.append_assoc,List.append_assoc];rfl
     ·rw[List.length_append,List.length_append,List.length_take];show _+1+_≤_;omega
     ·have:=HR4.o
      rw[List.map_append,List.map_append,List.length_append,List.length_append,List.length_take,Nat.min_eq_left m3,List.map_take,List.append_assoc];exact this
    case measure=>simp[sL];omega
  ·obtain rfl:p=data.length:=by omega
   have hfin:Fo.runGo f (data.drop data.length)=[128]:=rGe (by simp)
   rw[hfin]at HRR
   rw[Nat.sub_self]
   go_wp2_with (at_builtin;refine wpList_append_own _ rfl (.tmp 37) (.tmp 38) 23 rfl B 5 i0 (.int .u8 0) 1 1 Tryz.underlying23 hi hz0 hz1 hz2 rfl (by decide) (.slice a0 out.length c0) out.length _ rfl (HO.o.alloc _) ⟨wr.heap.size,0,none⟩ 1 1 ([128].map fun x:Nat=>.int .u8 (x:Int)) rfl rfl ?hnews ?hone ?h63 ?hby ?hbs ?_)
   case hnews=>exact news1 rfl
   case hone=>intro u hu;simp at hu;subst hu;rfl
   case h63=>unfold maxLen;omega
   case hby=>omega
   case hbs=>simp;omega
   intro v' w2 hr2 hg2 _
   have k2:=(KK.o.alloc _).grown hg2 (owr (HO.o.alloc _))
   clear hg2
   go_wp2
   go_ret
   refine⟨v',rfl,?_,k2⟩
   rw[←HRR.o,List.map_append,List.length_append]
   exact hr2
end
section
variable{w:World}
theorem rul(X Y:Nat)(W:World):(Instr.field 247 (sV (X,Y)) 0).run Tryz.prog W=.ok (.int .i64 (X:Nat)) W:=by kernel_rfl
theorem lSd(f:Nat→Nat × Nat)(v k:Nat)(h:v<(f (k+1)).1):Fo.lastSym f v (k+1)=Fo.lastSym f v k:=by rw[Fo.lastSym,if_pos h]
theorem lSh(f:Nat→Nat × Nat)(v k:Nat)(h:¬ v<(f k).1):Fo.lastSym f v k=k:=by
 cases k with
 |zero=>rfl
 |succ k=>rw[Fo.lastSym,if_neg h]
theorem leSl:∀ s:Fin 286,257≤s.val→(Fo.lenSpan s.val).1≤258:=by decide +kernel
theorem diSl:∀ s:Fin 30,(Fo.distSpan s.val).1≤24577:=by decide +kernel
theorem leSo(v:Nat)(h1:3≤v)(h2:v≤258)(w:World):Calls Tryz.prog 265 #[.int .i64 v] w fun e w'=>e=.returned (.int .i64 (Fo.lenSym v:Nat))∧Below w.heap.size w w':=by
 have HR:Hid (Fo.lastSym Fo.lenSpan v 285=Fo.lenSym v):=hide rfl
 generalize Fo.lenSym v=R at *
 go_enter Tryz.func265,Tryz.ntmps265
 go_wp2
 go_loopw [3] (fun s wr=>∃ k:Nat,257≤k∧k≤285∧s=.int .i64 k∧Hid (Fo.lastSym Fo.lenSpan v k=R)∧Below w.heap.size w wr) (fun s _=>(intOf s).toNat)
 case atStart=>exact⟨285,by omega,by omega,rfl,HR,Below.refl _ _⟩
 case round =>
  obtain⟨k,k1,k2,rfl,HK,bl⟩:=hrel
  have hcall:=hide (lSo k k1 k2 wr)
  have HX:Hid (∀ X Y,Fo.lenSpan k=(X,Y)→(v<X→257<k∧Fo.lastSym Fo.lenSpan v (k-1)=R)∧(¬ v<X→k=R)):=by
   intro X Y hxy
   have e:(Fo.lenSpan k).1=X:=by rw[hxy]
   refine⟨fun hlt=>?_,fun hge=>?_⟩
   ·have hk:257<k:=by
     rcases Nat.lt_or_ge 257 k with c | c
     ·exact c
     ·obtain rfl:k=257:=by omega
      have:(Fo.lenSpan 257).1=3:=by decide
      omega
    refine⟨hk,?_⟩
    obtain⟨j,rfl⟩:∃ j,k=j+1:=⟨k-1,by omega⟩
    rw[Nat.add_sub_cancel,←lSd Fo.lenSpan v j (by rw[e];exact hlt)]
    exact HK.o
   ·rw[←HK.o];exact(lSh _ _ _ (by rw[e];exact hge)).symm
  obtain⟨X,Y,hXY⟩:∃ X Y,Fo.lenSpan k=(X,Y):=⟨_,_,rfl⟩
  rw[hXY]at hcall
  have hX:=HX.o X Y hXY
  have hXm:X≤258:=by
   have:=(leSl ⟨k,by omega⟩ k1)
   simp only[]at this
   rw[hXY]at this;exact this
  clear HX HK hXY HR
  have hfl:=rul X Y
  by_cases hc:v<X
  ·obtain⟨a1,a2⟩:=hX.1 hc
   have A2:=hide a2
   have hc':(v:Int)<X:=by omega
   clear hX a2
   go_wp2_with fail
   refine hcall.o.mono ?_
   rintro e w1 ⟨rfl,o,rfl⟩
   go_wp2
   go_roundw
   case rel=>exact⟨k-1,by omega,by omega,by go_num,A2,bl.alloc bl.size _⟩
   case measure=>simp[intOf];omega
  ·have a1:=hide (hX.2 hc)
   have hc':¬ (v:Int)<X:=by omega
   clear hX
   go_wp2_with fail
   refine hcall.o.mono ?_
   rintro e w1 ⟨rfl,o,rfl⟩
   go_wp2
   go_ret
   exact⟨by rw[a1.o];rfl,bl.alloc bl.size _⟩
theorem diSo(v:Nat)(h1:1≤v)(h2:v≤32768)(w:World):Calls Tryz.prog 268 #[.int .i64 v] w fun e w'=>e=.returned (.int .i64 (Fo.distSym v:Nat))∧Below w.heap.size w w':=by
 have HR:Hid (Fo.lastSym Fo.distSpan v 29=Fo.distSym v):=hide rfl
 generalize Fo.distSym v=R at *
 go_enter Tryz.func268,Tryz.ntmps268
 go_wp2
 go_loopw [3] (fun s wr=>∃ k:Nat,k≤29∧s=.int .i64 k∧Hid (Fo.lastSym Fo.distSpan v k=R)∧Below w.heap.size w wr) (fun s _=>(intOf s).toNat)
 case atStart=>exact⟨29,by omega,rfl,HR,Below.refl _ _⟩
 case round =>
  obtain⟨k,k2,rfl,HK,bl⟩:=hrel
  have hcall:=hide (dSo k k2 wr)
  have HX:Hid (∀ X Y,Fo.distSpan k=(X,Y)→(v<X→0<k∧Fo.lastSym Fo.distSpan v (k-1)=R)∧(¬ v<X→k=R)):=by
   intro X Y hxy
   have e:(Fo.distSpan k).1=X:=by rw[hxy]
   refine⟨fun hlt=>?_,fun hge=>?_⟩
   ·have hk:0<k:=by
     rcases Nat.lt_or_ge 0 k with c | c
     ·exact c
     ·obtain rfl:k=0:=by omega
      have:(Fo.distSpan 0).1=1:=by decide
      omega
    refine⟨hk,?_⟩
    obtain⟨j,rfl⟩:∃ j,k=j+1:=⟨k-1,by omega⟩
    rw[Nat.add_sub_cancel,←lSd Fo.distSpan v j (by rw[e];exact hlt)]
    exact HK.o
   ·rw[←HK.o];exact(lSh _ _ _ (by rw[e];exact hge)).symm
  obtain⟨X,Y,hXY⟩:∃ X Y,Fo.distSpan k=(X,Y):=⟨_,_,rfl⟩
  rw[hXY]at hcall
  have hX:=HX.o X Y hXY
  have hXm:X≤24577:=by
   have:=(diSl ⟨k,by omega⟩)
   simp only[]at this
   rw[hXY]at this;exact this
  clear HX HK hXY HR
  have hfl:=rul X Y
  by_cases hc:v<X
  ·obtain⟨a1,a2⟩:=hX.1 hc
   have A2:=hide a2
   have hc':(v:Int)<X:=by omega
   clear hX a2
   go_wp2_with fail
   refine hcall.o.mono ?_
   rintro e w1 ⟨rfl,o,rfl⟩
   go_wp2
   go_roundw
   case rel=>exact⟨k-1,by omega,by go_num,A2,bl.alloc bl.size _⟩
   case measure=>simp[intOf];omega
  ·have a1:=hide (hX.2 hc)
   have hc':¬ (v:Int)<X:=by omega
   clear hX
   go_wp2_with fail
   refine hcall.o.mono ?_
   rintro e w1 ⟨rfl,o,rfl⟩
   go_wp2
   go_ret
   exact⟨by rw[a1.o];rfl,bl.alloc bl.size _⟩
end
section
variable{w:World}{B bw bm g1 g2 cap T:Nat}{data:List Nat}{ao:Option Addr}{bs:List Bool}{at_:Nat}{rest:List Value}
theorem Wx.lt(h:Wx B bw T rest w bs):B≤bw∧bw<w.heap.size:=by obtain⟨_,_,_,hq,_⟩:=h;exact⟨hq.hb,lt_of_block hq.blk⟩
theorem dwo(h:Wx B bw 194 rest w bs)(x:Nat × Nat)(v:Nat)(hv:x.1≤v)(hx:x.2≤15)(hv2:v≤100000)(hl:bs.length+16≤1099511627776) :
  Calls Tryz.prog 266 #[.pointer (some ⟨bw,0,none⟩),.int .i64 v,sV x] w fun e w'=>e=.returned (.tuple #[])∧Wx B bw 194 rest w' (bs++Fo.numBits x.2 (v-x.1))∧Kept 5 B [bw] w w':=by
 obtain⟨x1,x2⟩:=x
 unfold sV
 simp only[]at hv hx ⊢
 have HK:Hid (Kept 5 B [bw] w (w.alloc (.cells #[.int .i64 (x1:Nat),.int .i64 (x2:Nat)] 247)).drew):=hide (((Kept.refl _ _ _ _).alloc _).drew)
 have HW:Hid (Wx B bw 194 rest (w.alloc (.cells #[.int .i64 (x1:Nat),.int .i64 (x2:Nat)] 247)).drew bs):=hide (h.alloc _).drew
 have q0:(w.alloc (.cells #[.int .i64 (x1:Nat),.int .i64 (x2:Nat)] 247)).cell? ⟨w.heap.size,0,none⟩=some (.int .i64 (x1:Nat)):=ceb (bln _ _)
 have q1:(w.alloc (.cells #[.int .i64 (x1:Nat),.int .i64 (x2:Nat)] 247)).cell? ⟨w.heap.size,1,none⟩=some (.int .i64 (x2:Nat)):=ceb (bln _ _)
 obtain⟨l1,l2⟩:=h.lt
 have HC:=hide (wbo HW.o (v-x1) x2 (by omega) (by omega) (by omega))
 have e1:Hid (IntKind.i64.wrap ((v:Int)-x1)=((v-x1:Nat):Int)):=by
  unfold Hid
  rw[IntKind.wrap_i64];omega
 clear h HW
 go_enter Tryz.func266,Tryz.ntmps266
 go_wp2_with fail
 generalize w.alloc (.cells #[.int .i64 (x1:Nat),.int .i64 (x2:Nat)] 247)=w2 at *
 go_region_with (go_at_call 203;rw[e1.o];refine HC.o.mono ?_;rintro e w1 ⟨rfl,hf1,k1⟩)
 all_goals go_wp2
 all_goals go_end0
 all_goals exact⟨rfl,hf1,HK.o.trans k1⟩
end
section
variable{w:World}
theorem sFn:psum Fo.csF 15≤Fo.ssF.length∧Fo.ssF.length≤1000∧(∀ x∈Fo.ssF,x<288)∧∀ k:Fin 16,valAt Fo.csF k.val≤100000:=by decide +kernel
theorem sdF_num:psum Fo.cdF 15≤Fo.sdF.length∧Fo.sdF.length≤1000∧(∀ x∈Fo.sdF,x<32)∧∀ k:Fin 16,valAt Fo.cdF k.val≤100000:=by decide +kernel
theorem ntm{l:List Nat}{i:Nat}(h:i<l.length):nth l i∈l:=by
 have e:nth l i=l[i]:=by simp[nth,h]
 rw[e];exact List.getElem_mem h
def CdF(w:World)(b:Nat):Prop:=Cd w b 0 Fo.csF Fo.ssF
def CdD(w:World)(b:Nat):Prop:=Cd w b 17 Fo.cdF Fo.sdF
theorem bySymF(b:Nat)(h:CdF w b):Calls Tryz.prog 261 #[.pointer (some ⟨b,0,none⟩),.int .i64 288] w fun e w'=>e=.returned (.slice (some ⟨w.heap.size,0,none⟩) 288 288)∧CodeRow w' w.heap.size Fo.tabF∧Below w.heap.size w w':=by
 obtain⟨a1,a2,a3,a4⟩:=sFn
 have:=bSo b 0 288 Fo.csF Fo.ssF h (by omega) a1 a2 (fun i hi=>a3 _ (ntm hi)) (fun k hk=>a4 ⟨k,by omega⟩)
 rw[tFa]at this
 exact this
theorem bySymD(b:Nat)(h:CdD w b):Calls Tryz.prog 261 #[.pointer (some ⟨b,17,none⟩),.int .i64 32] w fun e w'=>e=.returned (.slice (some ⟨w.heap.size,0,none⟩) 32 32)∧CodeRow w' w.heap.size Fo.tadF∧Below w.heap.size w w':=by
 obtain⟨a1,a2,a3,a4⟩:=sdF_num
 have:=bSo b 17 32 Fo.cdF Fo.sdF h (by omega) a1 a2 (fun i hi=>a3 _ (ntm hi)) (fun k hk=>a4 ⟨k,by omega⟩)
 rw[tadF_at]at this
 exact this
theorem CdF.below{b:Nat}{w':World}(h:CdF w b)(k:Below w.heap.size w w'):CdF w' b:=
 Cd.below h k (by obtain⟨_,g,c,h2,_⟩:=h;exact World.block_lt_of_cell? w _ h2) (fun g c e=>by
  obtain⟨_,g',c',h2,h3⟩:=h
  rw[h2]at e;cases e
  exact World.block_lt_of_cell? w _ (h3 0 (by decide +kernel)))
theorem CdD.below{b:Nat}{w':World}(h:CdD w b)(k:Below w.heap.size w w'):CdD w' b:=
 Cd.below h k (by obtain⟨_,g,c,h2,_⟩:=h;exact World.block_lt_of_cell? w _ h2) (fun g c e=>by
  obtain⟨_,g',c',h2,h3⟩:=h
  rw[h2]at e;cases e
  exact World.block_lt_of_cell? w _ (h3 0 (by decide +kernel)))
theorem fc_{b g1 g2 T:Nat}{fz:Nat × Nat}(hb:w.heap[b]?=some (.cells (fC g1 g2).toArray T fz))(i1:IntRow w g1 Fo.ssF)(i2:IntRow w g2 Fo.sdF):CdF w b∧CdD w b:=by
 have hcell:∀ i v,(fC g1 g2)[i]?=some v→w.cell? ⟨b,i,none⟩=some v:=by
  intro i v hv
  rw[ceb hb];simpa using hv
 have l1:=cFl
 have l2:=cdFl
 have li1:(ints Fo.csF).length=16:=by simpa[ints]using l1
 have li2:(ints Fo.cdF).length=16:=by simpa[ints]using l2
 unfold CdF CdD
 unfold fC at hcell
 clear hb
 generalize Fo.csF=CS at *
 generalize Fo.ssF=SS at *
 generalize Fo.cdF=CD at *
 generalize Fo.sdF=SD at *
 refine⟨⟨?_,g1,SS.length,?_,i1.cell⟩,⟨?_,g2,SD.length,?_,i2.cell⟩⟩
 ·intro i hi
  refine hcell (0+i) _ ?_
  rw[Nat.zero_add,List.getElem?_append_left (by omega)];exact ig _ _ (by omega)
 ·refine hcell (0+16) _ ?_
  rw[List.getElem?_append_right (by omega),li1];rfl
 ·intro i hi
  refine hcell (17+i) _ ?_
  rw[List.getElem?_append_right (by omega),li1,show 17+i-16=i+1 by omega,List.getElem?_cons_succ,List.getElem?_append_left (by omega)];exact ig _ _ (by omega)
 ·refine hcell (17+16) _ ?_
  rw[List.getElem?_append_right (by omega),li1,show 17+16-16=16+1 by omega,List.getElem?_cons_succ,List.getElem?_append_right (by omega),li2];rfl
end
theorem tFl:Fo.tabF.length=288:=by decide +kernel
theorem tFl_:Fo.tadF.length=32:=by decide +kernel
theorem taFl:∀ s:Fin 288,(tnth Fo.tabF s.val).1<1024∧(tnth Fo.tabF s.val).2≤9:=by decide +kernel
theorem tF0:∀ s:Fin 32,(tnth Fo.tadF s.val).1<1024∧(tnth Fo.tadF s.val).2≤9:=by decide +kernel
end Go.Proofs.YtgkljcmjnphpeaaGreatDoor
