import Derived.Test.YtgkljcmjnphpeaaGreatDoorK25
set_option linter.unusedVariables false
set_option linter.unusedSimpArgs false
set_option maxHeartbeats 2000000
set_option maxRecDepth 100000
namespace Go.Proofs.YtgkljcmjnphpeaaGreatDoor
open Go.RowKit
section
variable{B br bf bd off cap:Nat}{d:List Nat}{most:Nat}{fixed:List Value}{w:World}{p held left window:Nat}{ov:Value}{out:List Nat}
theorem Bi.putOne(h:Bi B br bf bd off cap d most fixed w p held left window ov out){w1:World}{v:Value}{x:Nat}(ho:out.length+1≤most)
  (hown:w1.ownsRow B 5 1 v (out.length+1) ((out.map fun x:Nat=>.int .u8 (x:Int))++[.int .u8 (x:Int)])) (hg:w.grownBy w1 ov.ownBlock) :
  Bi B br bf bd off cap d most fixed (w1.setCell ⟨br,2,none⟩ v) p held left window v (out++[x])∧Kept 5 B [br,bf] w (w1.setCell ⟨br,2,none⟩ v):=by
 have r:=h.rd.put (xs:=[x]) ho hown hg
 have k:Kept 5 B [br] w (w1.setCell ⟨br,2,none⟩ v):=((Kept.refl 5 B [br] w).grown hg (owr h.rd.own)).setCell (p:=⟨br,2,none⟩) (by simp) v
 exact⟨h.rdKept r k,k.mono (by simp)⟩
theorem Bi.alloc(h:Bi B br bf bd off cap d most fixed w p held left window ov out)(o:Obj):Bi B br bf bd off cap d most fixed (w.alloc o) p held left window ov out:=⟨h.rd.alloc o,h.hbf,bla _ h.blk,h.hh,h.hl⟩
theorem Bi.putOne'(h:Bi B br bf bd off cap d most fixed w p held left window ov out){w1:World}{v:Value}{x:Nat}(ho:out.length+1≤most)
  (hown:w1.ownsRow B 5 1 v (out.length+1) ((out.map fun x:Nat=>.int .u8 (x:Int))++[.int .u8 (x:Int)])) (hg:w.grownBy w1 ov.ownBlock) :
  Bi B br bf bd off cap d most fixed (w1.setCell ⟨br,2,none⟩ v) p held left window v (out++[x])∧Kept 5 B [br,bf] w (w1.setCell ⟨br,2,none⟩ v)∧w1.cell? ⟨br,2,none⟩=some ov∧w1.frozen? ⟨br,2,none⟩=false∧∃ ao c,v=.slice ao (out.length+1) c:=by
 obtain⟨a,b⟩:=h.putOne ho hown hg
 have hk:=h.rd.grown_blk hg
 exact⟨a,b,ceb hk,frb hk,ows hown⟩
theorem Bi.q0(h:Bi B br bf bd off cap d most fixed w p held left window ov out){w1:World}(hg:w.grownBy w1 ov.ownBlock):w1.cell? ⟨bf,0,none⟩=some (.pointer (some ⟨br,0,none⟩)):=
 hg.cell h.c0 (fun c=>h.own_ne c.symm)
def Sag(bf br g idx:Nat)(ptr old x:Value)(L:Array Bool)(W:World):Prop:=
 W.cell? ⟨bf,0,none⟩=some ptr∧(L.getD 35 false=false→W.cell? ⟨br,2,none⟩=some old∧W.cell? ⟨g,idx,none⟩=some x)
theorem Sag.s1{bf br g idx:Nat}{ptr old x:Value}{L:Array Bool}{W:World}{i:Nat}(hi:i≠35)(h:Sag bf br g idx ptr old x L W):Sag bf br g idx ptr old x (L.setIfInBounds i true) W:=
 ⟨h.1,fun hl=>h.2 (by rwa [getD_set_ne false hi]at hl)⟩
theorem Sag.s2{bf br g idx:Nat}{ptr old x:Value}{L:Array Bool}{W:World}{i:Nat}(hi:i≠35)(h:Sag bf br g idx ptr old x (L.setIfInBounds i true) W):Sag bf br g idx ptr old x L W:=
 ⟨h.1,fun hl=>h.2 (by rwa [getD_set_ne false hi])⟩
theorem heF{md:Region.Mode}{ops:Array Oper}{bf br g idx:Nat}{ptr old x:Value}{i:Nat}{W:World}(h:Held md ops (Sag bf br g idx ptr old x) i W):W.cell? ⟨bf,0,none⟩=some ptr:=by
 obtain⟨L,_,_,h⟩:=h;exact h.1
theorem hF_{md:Region.Mode}{ops:Array Oper}{bf br g idx:Nat}{ptr old x:Value}{i:Nat}{W:World}(h:Held md ops (Sag bf br g idx ptr old x) i W)(hw:waits md ops i 40 35=true) :
  W.cell? ⟨br,2,none⟩=some old∧W.cell? ⟨g,idx,none⟩=some x:=by
 obtain⟨L,hD,hu,h⟩:=h
 refine h.2 ?_
 cases hl:L.getD 35 false with
 |false=>rfl
 |true =>
  have:=hD.came 40 35 hw hl
  have h3:L.getD i false=L.getD i true:=by
   rcases Nat.lt_or_ge i L.size with h' | h'
   ·simp[h']
   ·simp[Array.getElem?_eq_none h']at this
  rw[h3,hu]at this;cases this
theorem gx{w:World}{o:Obj}{a:Addr}{v:Value}(h:w.cell? a=some v):((w.alloc o).drewN 1).cell? a=some v:=by
 show(w.alloc o).cell? a=_
 rw[World.cell?_alloc_lt _ _ _ (World.block_lt_of_cell? w a h)];exact h
theorem oN{w:World}{x:Value}{t:TypeId}:∀ j u,[x][j]?=some u→(w.alloc (.cells #[x] t)).drew.cell? ((⟨w.heap.size,0,none⟩:Addr).add j)=some u:=by
 intro j u hu
 match j,hu with
 |0,hu =>
  show(w.alloc _).cell? ⟨w.heap.size,0+0,none⟩=_
  rw[World.cell?_alloc_new];exact hu
 |j+1,hu=>simp at hu
theorem ago(h:Bi B br bf bd off cap d most fixed w p held left window ov out)(len dist:Nat)(h1:1≤dist)(h2:dist≤out.length)(h3:dist≤window)(h4:out.length+len≤most)(h5:window≤32768) :
  Calls Tryz.prog 315 #[.pointer (some ⟨bf,0,none⟩),.int .i64 len,.int .i64 dist] w fun e w'=>e=.returned (.tuple #[])∧∃ ov',Bi B br bf bd off cap d most fixed w' p held left window ov' (Fo.copy dist len out)∧Kept 5 B [br,bf] w w':=by
 obtain⟨i0,hi,hz0,hz1,hz2⟩:=info_parts Tryz.infoByte
 have c0:=h.c0
 have c3:=h.c3
 have r2:=h.rd.c2
 have lm:=h.rd.lm
 have hsl:=ows h.rd.own
 obtain⟨ao,oc,hov⟩:=hsl
 have HOV:=hide hov
 rw[hov]at r2
 clear hov
 rcases Nat.lt_or_ge window out.length with hm | hm
 all_goals
  go_enter Tryz.func315,Tryz.ntmps315
  go_wp2_with fail
  go_quiet ((first | (go_at_call 63;exact Calls.quiet_of_same (wiy _ _ _ _ (by omega) (by omega))) | (go_at_call 163;exact Calls.quiet_of_same (muy _))))
  go_wp2_with fail
  refine(roo (h.rd.drewN _) len h4).mono ?_
  rintro e w' ⟨rfl,q,rfl⟩
  rw[←HOV.o]at r2
  clear hm
  go_wp2_with fail
  go_loopw [31] (fun i wr=>∃(k:Nat) (ov':Value),k≤len∧i=.int .i64 k∧Bi B br bf bd off cap d most fixed wr p held left window ov' (Fo.copy dist k out)∧Kept 5 B [br,bf] w wr) (fun i _=>len-(intOf i).toNat)
  case atStart=>exact⟨0,ov,Nat.zero_le _,rfl,by simpa[Fo.copy]using (h.drewN _),by simpa using (Kept.refl _ _ _ _).drewN _⟩
  case round =>
   clear r2 c0 c3
   obtain⟨k,ov',hk,rfl,hb,kk⟩:=hrel
   have hcl:=Fo.copy_length dist k out
   by_cases hlt:k<len
   ·have d0:=hb.c0
    have s2:=hb.rd.c2
    have sf:=hb.rd.fz 2
    have hsz:=hb.rd.sz
    obtain⟨g,oc',hov'⟩:∃ g c,ov'=.slice (some ⟨g,0,none⟩) (Fo.copy dist k out).length c:=by
     rcases hb.rd.own.2 with⟨_,e2⟩ | ⟨g,c,cur,e1,_⟩
     ·omega
     ·exact⟨g,c,e1⟩
    subst hov'
    have hx:=hb.rd.own.cellAt ((Fo.copy dist k out).length-dist) (by omega)
    rw[List.getElem?_map,List.getElem?_eq_getElem (by omega)]at hx
    simp only[Option.map_some]at hx
    have HX:Hid (((Fo.copy dist k out).map fun x:Nat=>Value.int .u8 (x:Int))[(Fo.copy dist k out).length-dist]?=some (.int .u8 ((Fo.copy dist k out)[(Fo.copy dist k out).length-dist]'(by omega):Nat))):=by
     unfold Hid;rw[List.getElem?_map,List.getElem?_eq_getElem (by omega)];rfl
    have e1:Fo.copy dist (k+1) out=Fo.copy dist k out++[(Fo.copy dist k out)[(Fo.copy dist k out).length-dist]'(by omega)]:=by
     rw[Fo.copy_succ,List.getD_eq_getElem?_getD,List.getElem?_eq_getElem (by omega)];rfl
    have E1:=hide e1
    clear e1
    generalize hX:(Fo.copy dist k out)[(Fo.copy dist k out).length-dist]'(by omega)=X at *
    clear hX
    generalize hO:Fo.copy dist k out=O at *
    clear hO
    have HCL:=hide hcl
    have hol:dist≤O.length:=by omega
    have hom:O.length+1≤most:=by omega
    clear hcl
    have hwr:IntKind.i64.wrap ((O.length:Int)-(dist:Int))=((O.length-dist:Nat):Int):=by rw[IntKind.wrap_i64];omega
    have hw2:((O.length-dist:Nat):Int)<(O.length:Int):=by omega
    have hw3:(0:Int)≤((O.length-dist:Nat):Int):=by omega
    go_wp2_with fail
    have hbb:=(hb.alloc (.cells #[.int .u8 (X:Int)] 5)).drewN 1
    refine wrT (Sag bf br g (O.length-dist) (.pointer (some ⟨br,0,none⟩)) (.slice (some ⟨g,0,none⟩) O.length oc') (.int .u8 (X:Int))) (by kernel_rfl) ?_
    intro hD
    have hS:Sag bf br g (O.length-dist) (.pointer (some ⟨br,0,none⟩)) (.slice (some ⟨g,0,none⟩) O.length oc') (.int .u8 (X:Int)) (Array.replicate 39 false) wr.drew:=⟨d0,fun _=>⟨s2,hx⟩⟩
    refine tk 0 ?_ hD ?_ hS ?_
    rotate_left
    ·intro W hW;have f0:=heF hW;clear hW;go_simp;try(with_reducible rfl)
    clear hD hS;intro hD hS;(try simp only[setL])
    refine tk 1 ?_ hD ?_ hS ?_
    rotate_left
    ·intro W hW;have f0:=heF hW;clear hW;go_simp;try(with_reducible rfl)
    clear hD hS;intro hD hS;(try simp only[setL])
    refine tk 2 ?_ hD ?_ hS ?_
    rotate_left
    ·intro W hW;have f0:=heF hW;clear hW;go_simp;try(with_reducible rfl)
    clear hD hS;intro hD hS;(try simp only[setL])
    refine tk 3 ?_ hD ?_ hS ?_
    rotate_left
    ·intro W hW;have f0:=heF hW;clear hW;go_simp;try(with_reducible rfl)
    clear hD hS;intro hD hS;(try simp only[setL])
    refine tk 4 ?_ hD ?_ hS ?_
    rotate_left
    ·intro W hW;have f0:=heF hW;clear hW;go_simp;try(with_reducible rfl)
    clear hD hS;intro hD hS;(try simp only[setL])
    refine tk 5 ?_ hD ?_ hS ?_
    rotate_left
    ·intro W hW;have f0:=heF hW;clear hW;go_simp;try(with_reducible rfl)
    clear hD hS;intro hD hS;(try simp only[setL])
    refine tk 6 ?_ hD ?_ hS ?_
    rotate_left
    ·intro W hW;have f0:=heF hW;clear hW;go_simp;try(with_reducible rfl)
    clear hD hS;intro hD hS;(try simp only[setL])
    refine tk 7 ?_ hD ?_ hS ?_
    rotate_left
    ·intro W hW;have f0:=heF hW;clear hW;go_simp;try(with_reducible rfl)
    clear hD hS;intro hD hS;(try simp only[setL])
    refine tk 8 ?_ hD ?_ hS ?_
    rotate_left
    ·intro W hW;have f0:=heF hW;clear hW;go_simp;try(with_reducible rfl)
    clear hD hS;intro hD hS;(try simp only[setL])
    refine tk 9 ?_ hD ?_ hS ?_
    rotate_left
    ·intro W hW;have f0:=heF hW;clear hW;go_simp;try(with_reducible rfl)
    clear hD hS;intro hD hS;(try simp only[setL])
    refine tk 10 ?_ hD ?_ hS ?_
    rotate_left
    ·intro W hW;have f0:=heF hW;clear hW;go_simp;try(with_reducible rfl)
    clear hD hS;intro hD hS;(try simp only[setL])
    refine tk 11 ?_ hD ?_ hS ?_
    rotate_left
    ·intro W hW;have f0:=heF hW;clear hW;go_simp;try(with_reducible rfl)
    clear hD hS;intro hD hS;(try simp only[setL])
    refine tk 12 ?_ hD ?_ hS ?_
    rotate_left
    ·intro W hW;have f0:=heF hW;have f1:=hF_ hW (by kernel_rfl);obtain⟨f2,f3⟩:=f1;clear hW;go_simp;try(with_reducible rfl)
    clear hD hS;intro hD hS;(try simp only[setL])
    refine tk 13 ?_ hD ?_ hS ?_
    rotate_left
    ·intro W hW;have f0:=heF hW;clear hW;go_simp;try(with_reducible rfl)
    clear hD hS;intro hD hS;(try simp only[setL])
    refine tk 14 ?_ hD ?_ hS ?_
    rotate_left
    ·intro W hW;have f0:=heF hW;clear hW;go_simp;try(with_reducible rfl)
    clear hD hS;intro hD hS;(try simp only[setL])
    refine tk 15 ?_ hD ?_ hS ?_
    rotate_left
    ·intro W hW;have f0:=heF hW;clear hW;go_simp;try(with_reducible rfl)
    clear hD hS;intro hD hS;(try simp only[setL])
    refine tk 16 ?_ hD ?_ hS ?_
    rotate_left
    ·intro W hW;have f0:=heF hW;clear hW;go_simp;try(with_reducible rfl)
    clear hD hS;intro hD hS;(try simp only[setL])
    refine tk 17 ?_ hD ?_ hS ?_
    rotate_left
    ·intro W hW;have f0:=heF hW;clear hW;go_simp;try(with_reducible rfl)
    clear hD hS;intro hD hS;(try simp only[setL])
    refine tk 18 ?_ hD ?_ hS ?_
    rotate_left
    ·intro W hW;have f0:=heF hW;clear hW;go_simp;try(with_reducible rfl)
    clear hD hS;intro hD hS;(try simp only[setL])
    refine tk 19 ?_ hD ?_ hS ?_
    rotate_left
    ·intro W hW;have f0:=heF hW;clear hW;go_simp;try(with_reducible rfl)
    clear hD hS;intro hD hS;(try simp only[setL])
    refine tk 20 ?_ hD ?_ hS ?_
    rotate_left
    ·intro W hW;have f0:=heF hW;have f1:=hF_ hW (by kernel_rfl);obtain⟨f2,f3⟩:=f1;clear hW;go_simp;try(with_reducible rfl)
    clear hD hS;intro hD hS;(try simp only[setL])
    refine tk 21 ?_ hD ?_ hS ?_
    rotate_left
    ·intro W hW;have f0:=heF hW;clear hW;go_simp;try(with_reducible rfl)
    clear hD hS;intro hD hS;(try simp only[setL])
    refine tk 22 ?_ hD ?_ hS ?_
    rotate_left
    ·intro W hW;have f0:=heF hW;clear hW;go_simp;try(with_reducible rfl)
    clear hD hS;intro hD hS;(try simp only[setL])
    refine tk 23 ?_ hD ?_ hS ?_
    rotate_left
    ·intro W hW;have f0:=heF hW;clear hW;go_simp;try(with_reducible rfl)
    clear hD hS;intro hD hS;(try simp only[setL])
    refine tk 24 ?_ hD ?_ hS ?_
    rotate_left
    ·intro W hW;have f0:=heF hW;clear hW;go_simp;try(with_reducible rfl)
    clear hD hS;intro hD hS;(try simp only[setL])
    refine tk 25 ?_ hD ?_ hS ?_
    rotate_left
    ·intro W hW;have f0:=heF hW;clear hW;go_simp;try(with_reducible rfl)
    clear hD hS;intro hD hS;(try simp only[setL])
    refine tk 26 ?_ hD ?_ hS ?_
    rotate_left
    ·intro W hW;have f0:=heF hW;clear hW;go_simp;try(with_reducible rfl)
    clear hD hS;intro hD hS;(try simp only[setL])
    refine tk 27 ?_ hD ?_ hS ?_
    rotate_left
    ·intro W hW;have f0:=heF hW;clear hW;go_simp;try(with_reducible rfl)
    clear hD hS;intro hD hS;(try simp only[setL])
    refine tk 28 ?_ hD ?_ hS ?_
    rotate_left
    ·intro W hW;have f0:=heF hW;have f1:=hF_ hW (by kernel_rfl);obtain⟨f2,f3⟩:=f1;clear hW;go_simp;try(with_reducible rfl)
    clear hD hS;intro hD hS;(try simp only[setL])
    refine tk 29 ?_ hD ?_ hS ?_
    rotate_left
    ·intro W hW;have f0:=heF hW;clear hW;go_simp;try(with_reducible rfl)
    clear hD hS;intro hD hS;(try simp only[setL])
    refine tk 30 ?_ hD ?_ hS ?_
    rotate_left
    ·intro W hW;have f0:=heF hW;clear hW;go_simp;try(with_reducible rfl)
    clear hD hS;intro hD hS;(try simp only[setL])
    refine tk 31 ?_ hD ?_ hS ?_
    rotate_left
    ·intro W hW;have f0:=heF hW;clear hW;go_simp;try(with_reducible rfl)
    clear hD hS;intro hD hS;(try simp only[setL])
    refine tk 32 ?_ hD ?_ hS ?_
    rotate_left
    ·intro W hW;have f0:=heF hW;clear hW;go_simp;try(with_reducible rfl)
    clear hD hS;intro hD hS;(try simp only[setL])
    refine tk 33 ?_ hD ?_ hS ?_
    rotate_left
    ·intro W hW;have f0:=heF hW;have f1:=hF_ hW (by kernel_rfl);obtain⟨f2,f3⟩:=f1;clear hW;go_simp;try(with_reducible rfl)
    clear hD hS;intro hD hS;(try simp only[setL])
    refine on 34 hD fun K' hK=>?_
    go_simp
    refine hK.o _ _ ⟨hbb.c0,fun _=>⟨hbb.rd.c2,gx hx⟩⟩ (fun hD2 hS2=>?_)
    clear hD hS hK K'
    have hD:=hD2
    have hS:=hS2
    clear hD2 hS2
    refine on 35 hD fun K' hK=>?_
    refine sak (by rfl) (.tmp 45) (.tmp 67) 23 (by rfl) B 5 i0 (.int .u8 0) 1 1 Tryz.underlying23 hi hz0 hz1 hz2 rfl (by decide) g O.length oc' _ (by rfl) hbb.rd.own ⟨wr.heap.size,0,none⟩ 1 1 [.int .u8 (X:Int)] (by rfl) rfl oN (by intro u hu;simp at hu;subst hu;rfl) (by unfold maxLen;omega) (by omega) (by simp;omega) ?_
    intro v' w1 hown1 hg1 _
    obtain⟨R,KK,k2,f2,ao',oc2,hv'⟩:=hbb.putOne' hom hown1 hg1
    have q0:=hbb.q0 hg1
    rw[hv']at R KK ⊢
    clear hown1 hg1 hv'
    refine hK.o _ _ ⟨q0,fun hl=>absurd hl (by simp)⟩ (fun hD2 hS2=>?_)
    clear hD hS hK K'
    have hD:=hD2
    have hS:=hS2
    clear hD2 hS2
    (try simp only[setL])
    refine tk 36 ?_ hD ?_ hS ?_
    rotate_left
    ·intro W hW;have f0:=heF hW;clear hW;go_simp;try(with_reducible rfl)
    clear hD hS;intro hD hS;(try simp only[setL])
    refine tk 37 ?_ hD ?_ hS ?_
    rotate_left
    ·intro W hW;have f0:=heF hW;clear hW;go_simp;try(with_reducible rfl)
    clear hD hS;intro hD hS;(try simp only[setL])
    refine on 38 hD fun K' hK=>?_
    go_simp
    refine hK.o _ _ ⟨R.c0,fun hl=>absurd hl (by simp)⟩ (fun _ _=>?_)
    refine wATd (by kernel_rfl) ?_ _
    clear hK K' hD hS k2 f2 q0
    go_wp2
    go_roundw
    case rel=>exact⟨k+1,_,by omega,by go_num,by rw[E1.o];exact R,kk.trans ((((Kept.refl _ _ _ _).alloc _).drewN 1).trans KK)⟩
    case measure=>simp[intOf];omega
   ·obtain rfl:k=len:=by omega
    go_wp2
    go_end0
    exact⟨rfl,ov',hb,kk⟩
def Codes4(B br bf bd off cap:Nat)(d:List Nat)(most:Nat)(fixed:List Value)(window:Nat)(bc oc:Nat)(c:Fo.Codes)(w:World):Prop:=
 ∀ w' r ov out,Fl B br bf bd off cap d most fixed w' r window ov out→Kept 5 B [br,bf] w w'→Cd w' bc oc c.cs c.ss∧Cd w' bc (oc+17) c.cd c.sd
theorem Codes4.kept{bc oc:Nat}{c:Fo.Codes}{w':World}(h:Codes4 B br bf bd off cap d most fixed window bc oc c w)(k:Kept 5 B [br,bf] w w'):Codes4 B br bf bd off cap d most fixed window bc oc c w' :=
 fun w'' r ov out hf kk=>h w'' r ov out hf (k.trans kk)
structure CO(c:Fo.Codes):Prop where
 s1:psum c.cs 15≤c.ss.length
 l1:c.ss.length≤1000
 s2:psum c.cd 15≤c.sd.length
 l2:c.sd.length≤1000
theorem peo(bc oc:Nat)(c:Fo.Codes)(hc:CO c)(hC:Codes4 B br bf bd off cap d most fixed window bc oc c w){rest rest':List Bool}(h:Fl B br bf bd off cap d most fixed w rest window ov out)
  (hs:Fo.sym c.cs c.ss rest=some (256,rest')) :
  Calls Tryz.prog 278 #[.pointer (some ⟨bf,0,none⟩),.pointer (some ⟨bc,oc,none⟩)] w fun e w'=>e=.returned (.bool false)∧Fl B br bf bd off cap d most fixed w' rest' window ov out∧Kept 5 B [br,bf] w w':=by
 have HS:=hide hs
 clear hs
 go_enter Tryz.func278,Tryz.ntmps278
 go_wp2_with fail
 go_region_with (go_at_call 313;refine(syo bc oc c.cs c.ss hc.s1 hc.l1 (fun w' r hf k=>(hC w' r _ _ hf (((Kept.refl _ _ _ _).drew).trans k)).1) HS.o h.drew).mono ?_;rintro e w1 ⟨rfl,hf1,k1⟩)
 go_wp2
 go_ret
 exact⟨rfl,hf1,((Kept.refl _ _ _ _).drew).trans k1⟩
theorem plo(bc oc:Nat)(c:Fo.Codes)(hc:CO c)(hC:Codes4 B br bf bd off cap d most fixed window bc oc c w){rest rest':List Bool}(h:Fl B br bf bd off cap d most fixed w rest window ov out)
  (s:Nat) (hs:Fo.sym c.cs c.ss rest=some (s,rest')) (h1:s<256) (ho:out.length+1≤most) :
  Calls Tryz.prog 278 #[.pointer (some ⟨bf,0,none⟩),.pointer (some ⟨bc,oc,none⟩)] w fun e w'=>e=.returned (.bool true)∧∃ ov',Fl B br bf bd off cap d most fixed w' rest' window ov' (out++[s])∧Kept 5 B [br,bf] w w':=by
 have HS:=hide hs
 clear hs
 go_enter Tryz.func278,Tryz.ntmps278
 go_wp2_with fail
 go_region_with (go_at_call 313;refine(syo bc oc c.cs c.ss hc.s1 hc.l1 (fun w' r hf k=>(hC w' r _ _ hf (((Kept.refl _ _ _ _).drew).trans k)).1) HS.o h.drew).mono ?_;rintro e w1 ⟨rfl,hf1,k1⟩)
 obtain⟨p,held,left,hb,hl,hr⟩:=hf1
 have c0:=hb.c0
 have HR:=hide hr
 clear hr
 have h1':(s:Int)<256:=by omega
 go_wp2_with fail
 refine(po1 hb.rd s _ ?_ ho).mono ?_
 ·first | rfl | omega
 rintro e w2 ⟨rfl,ov',r2,k2⟩
 go_wp2
 go_ret
 exact⟨rfl,ov',⟨p,held,left,hb.rdKept r2 k2,hl,HR.o⟩,(((Kept.refl _ _ _ _).drew).trans k1).trans (k2.mono (by simp))⟩
theorem lSl:∀ s:Fin 286,257≤s.val→(Fo.lenSpan s.val).2≤5∧(Fo.lenSpan s.val).1≤258:=by decide +kernel
theorem dSl:∀ s:Fin 30,(Fo.distSpan s.val).2≤13∧(Fo.distSpan s.val).1≤24577∧1≤(Fo.distSpan s.val).1:=by decide +kernel
theorem pco(bc oc:Nat)(c:Fo.Codes)(hc:CO c)(hC:Codes4 B br bf bd off cap d most fixed window bc oc c w){rest r1 r2 r3 r4:List Bool}(h:Fl B br bf bd off cap d most fixed w rest window ov out)
  (s x t y:Nat) (hs:Fo.sym c.cs c.ss rest=some (s,r1)) (a1:257≤s) (a2:s≤285) (hx:Fo.take (Fo.lenSpan s).2 r1=some (x,r2)) (ht:Fo.sym c.cd c.sd r2=some (t,r3)) (a3:t≤29)
  (hy:Fo.take (Fo.distSpan t).2 r3=some (y,r4)) (b1:(Fo.distSpan t).1+y≤out.length) (b2:(Fo.distSpan t).1+y≤window) (b3:out.length+((Fo.lenSpan s).1+x)≤most) (hw:window≤32768) :
  Calls Tryz.prog 278 #[.pointer (some ⟨bf,0,none⟩),.pointer (some ⟨bc,oc,none⟩)] w fun e w'=>e=.returned (.bool true)∧∃ ov',Fl B br bf bd off cap d most fixed w' r4 window ov' (Fo.copy ((Fo.distSpan t).1+y) ((Fo.lenSpan s).1+x) out)∧Kept 5 B [br,bf] w w':=by
 have HS:=hide hs
 have HT:=hide ht
 have l1:=lSl ⟨s,by omega⟩ a1
 have l2:=dSl ⟨t,by omega⟩
 simp only[]at l1 l2
 obtain⟨x1,x2,x3⟩:=Fo.take_rest hx
 obtain⟨y1,y2,y3⟩:=Fo.take_rest hy
 have X2:=hide x2
 have X3:=hide x3
 have Y2:=hide y2
 have Y3:=hide y3
 have NUM:=hide (And.intro b1 (And.intro b2 (And.intro b3 (And.intro l1 (And.intro l2 (And.intro x1 y1))))))
 clear hs ht hx hy x2 x3 y2 y3 b1 b2 b3 l1 l2 x1 y1
 have a1':(257:Int)≤(s:Int):=by omega
 have a2':(s:Int)≤285:=by omega
 have a3':(t:Int)≤29:=by omega
 have e1:((s:Int)==256)=false:=by simp;omega
 go_enter Tryz.func278,Tryz.ntmps278
 go_wp2_with fail
 go_region_with (go_at_call 313;refine(syo bc oc c.cs c.ss hc.s1 hc.l1 (fun w' r hf k=>(hC w' r _ _ hf (((Kept.refl _ _ _ _).drew).trans k)).1) HS.o h.drew).mono ?_;rintro e w1 ⟨rfl,hf1,k1⟩)
 have kk:=((Kept.refl 5 B [br,bf] w).drew).trans k1
 clear k1
 go_wp2_with fail
 refine(wiy _ _ _ _ a1' a2').mono ?_
 rintro e w' ⟨rfl,rfl⟩
 go_wp2_with fail
 refine(muy _).mono ?_
 rintro e w' ⟨rfl,rfl⟩
 go_wp2_with fail
 refine(lSo s a1 a2 _).mono ?_
 rintro e w2 ⟨rfl,o2,rfl⟩
 go_wp2_with fail
 refine(wo_ (Fo.lenSpan s) (by have:=NUM.o;omega) (by have:=NUM.o;omega) NUM.o.2.2.2.2.2.1 (hf1.alloc o2)).mono ?_
 rintro e w3 ⟨rfl,hf3,k3⟩
 rw[←X3.o]at hf3
 have kk3:=(kk.alloc o2).trans k3
 clear kk k3
 rw[←X2.o]
 go_wp2_with fail
 go_region_with (go_at_call 313;refine(syo bc (oc+17) c.cd c.sd hc.s2 hc.l2 (fun w' r hf k=>(hC w' r _ _ hf ((kk3.drew).trans k)).2) HT.o hf3.drew).mono ?_;rintro e w4 ⟨rfl,hf4,k4⟩)
 have kk4:=(kk3.drew).trans k4
 clear kk3 k4
 go_wp2_with fail
 refine(wiy _ _ _ _ (by omega) a3').mono ?_
 rintro e w' ⟨rfl,rfl⟩
 go_wp2_with fail
 refine(muy _).mono ?_
 rintro e w' ⟨rfl,rfl⟩
 go_wp2_with fail
 refine(dSo t a3 _).mono ?_
 rintro e w5 ⟨rfl,o5,rfl⟩
 go_wp2_with fail
 refine(wo_ (Fo.distSpan t) (by have:=NUM.o;omega) (by have:=NUM.o;omega) NUM.o.2.2.2.2.2.2 (hf4.alloc o5)).mono ?_
 rintro e w6 ⟨rfl,hf6,k6⟩
 rw[←Y3.o]at hf6
 have kk6:=(kk4.alloc o5).trans k6
 clear kk4 k6
 rw[←Y2.o]
 obtain⟨p,held,left,hb,hl,hr⟩:=hf6
 have HR:=hide hr
 clear hr
 go_wp2_with fail
 refine(ago hb ((Fo.lenSpan s).1+x) ((Fo.distSpan t).1+y) (by have:=NUM.o;omega) NUM.o.1 NUM.o.2.1 NUM.o.2.2.1 hw).mono ?_
 rintro e w7 ⟨rfl,ov',h7,k7⟩
 go_wp2
 go_ret
 exact⟨rfl,ov',⟨p,held,left,h7,hl,HR.o⟩,kk6.trans k7⟩
theorem pao(bc oc:Nat)(c:Fo.Codes)(hc:CO c)(hC:Codes4 B br bf bd off cap d most fixed window bc oc c w){rest rest':List Bool}{out':List Nat}{b:Bool}(h:Fl B br bf bd off cap d most fixed w rest window ov out)
  (hw:window≤32768) (hp:Fo.part c window most rest out=.ok (b,rest',out')) :
  Calls Tryz.prog 278 #[.pointer (some ⟨bf,0,none⟩),.pointer (some ⟨bc,oc,none⟩)] w fun e w'=>e=.returned (.bool b)∧∃ ov',Fl B br bf bd off cap d most fixed w' rest' window ov' out'∧Kept 5 B [br,bf] w w':=by
 unfold Fo.part at hp
 cases h1:Fo.sym c.cs c.ss rest with
 |none=>rw[h1]at hp;cases hp
 |some x =>
  obtain⟨s,r1⟩:=x
  rw[h1]at hp;simp only[]at hp
  by_cases c1:s<256
  ·rw[if_pos c1]at hp
   by_cases c0:out.length+1≤most
   ·rw[if_pos c0]at hp;cases hp
    exact plo bc oc c hc hC h s h1 c1 c0
   ·rw[if_neg c0]at hp;cases hp
  rw[if_neg c1]at hp
  by_cases c2:s=256
  ·rw[if_pos c2]at hp;cases hp;subst c2
   refine(peo bc oc c hc hC h h1).mono ?_
   rintro e w' ⟨rfl,hf,k⟩
   exact⟨rfl,ov,hf,k⟩
  rw[if_neg c2]at hp
  by_cases c3:285<s
  ·rw[if_pos c3]at hp;cases hp
  rw[if_neg c3]at hp
  cases h2:Fo.take (Fo.lenSpan s).2 r1 with
  |none=>rw[h2]at hp;cases hp
  |some x =>
   obtain⟨x,r2⟩:=x
   rw[h2]at hp;simp only[]at hp
   cases h3:Fo.sym c.cd c.sd r2 with
   |none=>rw[h3]at hp;cases hp
   |some y =>
    obtain⟨t,r3⟩:=y
    rw[h3]at hp;simp only[]at hp
    by_cases c4:29<t
    ·rw[if_pos c4]at hp;cases hp
    rw[if_neg c4]at hp
    cases h4:Fo.take (Fo.distSpan t).2 r3 with
    |none=>rw[h4]at hp;cases hp
    |some z =>
     obtain⟨y,r4⟩:=z
     rw[h4]at hp;simp only[]at hp
     by_cases c5:(Fo.distSpan t).1+y≤out.length∧(Fo.distSpan t).1+y≤window
     ·rw[if_pos c5]at hp
      by_cases c6:out.length+((Fo.lenSpan s).1+x)≤most
      ·rw[if_pos c6]at hp;cases hp
       exact pco bc oc c hc hC h s x t y h1 (by omega) (by omega) h2 h3 (by omega) h4 c5.1 c5.2 c6 hw
      ·rw[if_neg c6]at hp;cases hp
     ·rw[if_neg c5]at hp;cases hp
def bO(br bf:Nat)(n:Nat)(w:World):Nat:=8*(n-posOf br w)+(intOf ((w.cell? ⟨bf,2,none⟩).getD undef)).toNat
theorem Fl.measure{rest:List Bool}(h:Fl B br bf bd off cap d most fixed w rest window ov out):bO br bf d.length w=rest.length:=by
 obtain⟨p,held,left,hb,hl,hr⟩:=h
 have:=hb.rd.lp
 rw[←hr,bL,List.length_append,Fo.numBits_length,Fo.bitsOf_length,List.length_drop,bO,hb.rd.posOf,hb.c2]
 simp[intOf];omega
theorem coo(bc oc:Nat)(c:Fo.Codes)(hc:CO c)(hC:Codes4 B br bf bd off cap d most fixed window bc oc c w){rest rest':List Bool}{out':List Nat}(h:Fl B br bf bd off cap d most fixed w rest window ov out)
  (hw:window≤32768) (hp:Fo.PartsTo c window most rest out (.ok (rest',out'))) :
  Calls Tryz.prog 223 #[.pointer (some ⟨bf,0,none⟩),.pointer (some ⟨bc,oc,none⟩)] w fun e w'=>e=.returned (.tuple #[])∧∃ ov',Fl B br bf bd off cap d most fixed w' rest' window ov' out'∧Kept 5 B [br,bf] w w':=by
 go_enter Tryz.func223,Tryz.ntmps223
 go_wp2
 go_loopw [6] (fun _ wr=>∃(r:List Bool) (o:List Nat) (ov':Value),Fl B br bf bd off cap d most fixed wr r window ov' o∧Hid (Fo.PartsTo c window most r o (.ok (rest',out')))∧Kept 5 B [br,bf] w wr) (fun _ wr=>bO br bf d.length wr)
 case atStart=>exact⟨rest,out,ov,h,hp,Kept.refl _ _ _ _⟩
 case round =>
  obtain⟨r,o,ov',hf,HP,kk⟩:=hrel
  have hm:=hide hf.measure
  rcases HP.o.parted with⟨e1,he,hres⟩ | ⟨r1,o1,he,hres⟩ | ⟨r1,o1,he,hp2⟩
  ·cases hres
  ·cases hres
   go_wp2_with fail
   refine(pao bc oc c hc (hC.kept kk) hf hw he).mono ?_
   rintro e w1 ⟨rfl,ov2,hf2,k2⟩
   go_wp2
   go_end0
   exact⟨rfl,ov2,hf2,kk.trans k2⟩
  ·have HP2:=hide hp2
   have hsh:=Fo.part_shorter he
   have HE:=hide he
   clear hp2 he
   go_wp2_with fail
   refine(pao bc oc c hc (hC.kept kk) hf hw HE.o).mono ?_
   rintro e w1 ⟨rfl,ov2,hf2,k2⟩
   have hm2:=hide hf2.measure
   go_wp2
   go_roundw
   case rel=>exact⟨_,_,ov2,hf2,HP2,kk.trans k2⟩
   case measure=>rw[hm.o,hm2.o];exact hsh
end
end Go.Proofs.YtgkljcmjnphpeaaGreatDoor
