import Derived.Test.YtgkljcmjnphpeaaGreatDoorK38
set_option linter.unusedVariables false
set_option linter.unusedSimpArgs false
set_option maxHeartbeats 4000000
set_option maxRecDepth 100000
namespace Go.Proofs.YtgkljcmjnphpeaaGreatDoor
open Go.RowKit
section
variable{w w':World}{B bf:Nat}{ov pv:Value}{out pl:List Nat}
namespace Fo
def wline(p:Nat):List Nat:=padTo 10 p++[32,48,48,48,48,48,32,110,32,10]
def wthead(n:Nat):List Nat:=[120,114,101,102,10,48,32]++(wint ((n:Int)+1)++[10,48,48,48,48,48,48,48,48,48,48,32,54,53,53,51,53,32,102,32,10])
def wtable(pl:List Nat):List Nat:=wthead pl.length++pl.flatMap wline
theorem wline_len(p:Nat)(h:p<10^10):(wline p).length=20:=by
 unfold wline
 have:=padTo_len 10 p h (Nat.le_refl _)
 simp only[List.length_append,List.length_cons,List.length_nil]
 omega
theorem wthead_len(n:Nat)(h:n<9223372036854775807):(wthead n).length≤48:=by
 unfold wthead
 have:=wint_len (n:=((n:Int)+1)) (by omega) (by omega)
 simp only[List.length_append,List.length_cons,List.length_nil]
 omega
end Fo
theorem wo_2{E:Nat}(he:Env E w)(hEB:E≤B)(h:OutW B bf w ov pv out pl)(hpl:∀ p∈pl,p<10^10)(hlen:out.length+100+20*pl.length≤500000000) :
  Calls Tryz.prog 94 #[.pointer (some ⟨bf,0,none⟩)] w (WrOut B bf w pv out pl (Fo.wtable pl)):=by
 obtain⟨pa,pc,hpv⟩:=ows h.po
 subst hpv
 obtain⟨n,hn⟩:∃ n,pl.length=n:=⟨_,rfl⟩
 have hblk:=h.blk
 rw[hn]at hblk hlen ⊢
 have HN:=hide hn
 have HI:=hide (wio he (Nat.le_trans hEB h.bw) ((n:Int)+1) (by omega) (by omega))
 have c1:w.cell? ⟨bf,1,none⟩=some (.slice pa n pc):=ceb hblk
 have HBE:Hid (∀ W,OutK B bf w W→Env E W):=fun W k=>he.outk hEB h k
 have HPL:=hide hpl
 have H:Hid (OutW B bf w ov (.slice pa n pc) out pl):=by have:=h;rw[hn]at this;exact this
 clear h he hpl hblk hn
 go_enter Tryz.func94,Tryz.ntmps94
 go_wp2_with fail
 refine HI.o.mono ?_
 rintro e w1 ⟨S,rfl,hS,b1⟩
 have hsl:S.size≤20:=by rw[←bll,hS];exact Fo.wint_len (by omega) (by omega)
 have HP:=hide (wput3 (H.o.below b1) { data:=#[120,114,101,102,10,48,32] } S { data:=#[10,48,48,48,48,48,48,48,48,48,48,32,54,53,53,51,53,32,102,32,10] } (by show _+(7+(_+21))≤_;omega))
 rw[hS]at HP
 have K1:Hid (OutK B bf w w1):=OutK.of_below (b:=0) b1
 clear b1 HI hS c1
 go_wp2_with fail
 refine HP.o.mono ?_
 rintro e w2 ⟨rfl,ov2,h2,k2⟩
 have hblk2:=h2.blk
 have c2:w2.cell? ⟨bf,1,none⟩=some (.slice pa n pc):=ceb hblk2
 have H2:Hid (OutW B bf w2 ov2 (.slice pa n pc) (out++Fo.wthead n) pl):=h2
 have K2:Hid (OutK B bf w w2):=K1.o.trans k2
 clear h2 k2 HP K1 hblk2
 go_wp2_with fail
 go_loopw [3,19] (fun _ iv wr=>∃(m:Nat) (v:Value),m≤n∧iv=.int .i64 (m:Int)∧Hid (OutW B bf wr v (.slice pa n pc) (out++(Fo.wthead n++(pl.take m).flatMap Fo.wline)) pl)∧Hid (OutK B bf w wr)) (fun _ iv _=>n-(intOf iv).toNat)
 case atStart=>exact⟨0,ov2,Nat.zero_le _,rfl,by show OutW B bf w2 ov2 _ (out++(Fo.wthead n++[])) pl;rw[List.append_nil];exact H2.o,K2.o⟩
 case round =>
  obtain⟨m,v,hm,rfl,HW,HK⟩:=hrel
  rcases Nat.eq_or_lt_of_le hm with hm | hm
  ·subst hm
   go_wp2
   go_end0
   refine⟨rfl,v,?_,HK.o⟩
   have:=HW.o
   rw[show pl.take m=pl from List.take_of_length_le (by rw[HN.o];exact Nat.le_refl _)]at this
   show OutW B bf _ v _ (out++(Fo.wthead pl.length++pl.flatMap Fo.wline)) pl
   rw[HN.o]
   exact this
  ·obtain⟨p,hp⟩:∃ p,pl[m]?=some p:=⟨_,List.getElem?_eq_getElem (by rw[HN.o];exact hm)⟩
   have hp10:=HPL.o p (List.mem_of_getElem? hp)
   have hpm:(pl.map fun x:Nat=>Value.int .i64 (x:Int))[m]?=some (.int .i64 (p:Int)):=by rw[List.getElem?_map,hp];rfl
   have hpo:=HW.o.po
   rw[HN.o]at hpo
   obtain⟨g,c,hge,hxc⟩:=ro hpo hpm
   cases hge
   have hfl:((pl.take m).flatMap Fo.wline).length≤20*m:=by
    have:∀ l:List Nat,(∀ p∈l,p<10^10)→(l.flatMap Fo.wline).length=20*l.length:=fun l hl=>by
     induction l with
     |nil=>rfl
     |cons a l ih =>
      have h1:=Fo.wline_len a (hl a (by simp))
      have h2:=ih (fun p hp=>hl p (by simp[hp]))
      simp only[List.flatMap_cons,List.length_append,List.length_cons]
      omega
    rw[this _ (fun p hp=>HPL.o p (List.mem_of_mem_take hp)),List.length_take]
    omega
   have hth:=Fo.wthead_len n (by omega)
   have hlw:(out++(Fo.wthead n++(pl.take m).flatMap Fo.wline)).length+20≤500000000:=by
    simp only[List.length_append]
    omega
   have HTK:Hid (out++(Fo.wthead n++(pl.take (m+1)).flatMap Fo.wline)=out++(Fo.wthead n++(pl.take m).flatMap Fo.wline)++Fo.wline p):=by
    unfold Hid
    rw[List.take_add_one,hp,List.flatMap_append]
    simp
   have HPD:=hide (pTo (HBE.o wr HK.o) (Nat.le_trans hEB HW.o.bw) p 10 (by omega) (by decide))
   generalize hou:out++(Fo.wthead n++(pl.take m).flatMap Fo.wline)=o1 at *
   clear hou hp hpm hpo hfl hth
   go_wp2_with fail
   refine HPD.o.mono ?_
   rintro e w3 ⟨S3,rfl,hS3,b3⟩
   have hs3:S3.size≤10:=by rw[←bll,hS3];exact(Fo.padTo_len 10 p hp10 (Nat.le_refl _)).2
   have HP:=hide (wput2 (HW.o.below b3) S3 { data:=#[32,48,48,48,48,48,32,110,32,10] } (by show _+(_+10)≤_;omega))
   rw[hS3]at HP
   have K3:Hid (OutK B bf w w3):=HK.o.trans (OutK.of_below (b:=0) b3)
   clear b3 HPD hS3 hxc
   go_wp2_with fail
   refine HP.o.mono ?_
   rintro e w4 ⟨rfl,ov4,h4,k4⟩
   have H4:Hid (OutW B bf w4 ov4 _ (o1++Fo.wline p) pl):=h4
   have K4:Hid (OutK B bf w w4):=K3.o.trans k4
   clear h4 k4 HP K3
   go_wp2
   go_roundw
   case rel=>exact⟨m+1,_,by omega,by first | rfl | (congr 1),by rw[HTK.o];exact H4.o,K4.o⟩
   case measure=>simp[intOf];omega
def tD(n root:Int):VT 2:=(⟨7,0,0,[],[leafN (VT 0) 2 n 0 [],leafN (VT 0) 9 root 0 []],[[83,105,122,101],[82,111,111,116]],[]⟩:Node (VT 1))
theorem tDo{n root:Int}(h1 : -9223372036854775808≤n∧n≤9223372036854775807)(h2 : -9223372036854775808≤root∧root≤9223372036854775807):WOk (k:=2) (tD n root):=by
 have hl:∀(kd:Nat) (m:Int),(kd=2∨kd=9)→(-9223372036854775808≤m∧m≤9223372036854775807)→WOk (k:=1) (leafN (VT 0) kd m 0 []):=fun kd m hk hm =>
  ⟨by show kd≤7∨kd=9;omega,hm,fun h3=>by have h3:kd=3:=h3;omega,fun _=>rfl,fun x hx=>(by cases hx),fun s hs=>(by cases hs),fun y hy=>by cases hy⟩
 refine⟨Or.inl (Nat.le_refl 7),by show _≤(0:Int)∧(0:Int)≤_;omega,fun h=>by have h:(7:Nat)=3:=h;omega,fun _=>rfl,fun x hx=>(by cases hx),fun s hs x hx=>?_,fun y hy=>?_⟩
 ·have hs:s∈[[83,105,122,101],[82,111,111,116]]:=hs
  simp at hs
  rcases hs with rfl | rfl<;>simp at hx<;>omega
 ·have hy:y∈([leafN (VT 0) 2 n 0 [],leafN (VT 0) 9 root 0 []]:List (Node (VT 0))):=hy
  rcases List.mem_cons.1 hy with hy | hy
  ·exact hy▸hl 2 n (Or.inl rfl) h1
  ·exact(List.mem_singleton.1 hy)▸hl 9 root (Or.inr rfl) h2
theorem tDi(w:World)(n root:Int):VIn (fun _=>True) 2 ((w.alloc (.cells #[.string { data:=#[83,105,122,101] },.string { data:=#[82,111,111,116] }] 9)).alloc (.cells #[.int .i64 2,.int .i64 n,.int .i64 0,.string { data:=#[] },.slice none 0 0,.slice none 0 0,.slice none 0 0,.int .i64 9,.int .i64 root,.int .i64 0,.string { data:=#[] },.slice none 0 0,.slice none 0 0,.slice none 0 0] 67))
  (.agg #[.int .i64 7,.int .i64 0,.int .i64 0,.string { data:=#[] },.slice (some ⟨w.heap.size+1,0,none⟩) 2 2,.slice (some ⟨w.heap.size,0,none⟩) 2 2,.slice none 0 0]) (tD n root):=by
 have e1:strN [83,105,122,101]={ data:=#[83,105,122,101] }:=by rfl
 have e2:strN [82,111,111,116]={ data:=#[82,111,111,116] }:=by rfl
 have b1:=bln (w.alloc (.cells #[.string { data:=#[83,105,122,101] },.string { data:=#[82,111,111,116] }] 9)) (.cells #[.int .i64 2,.int .i64 n,.int .i64 0,.string { data:=#[] },.slice none 0 0,.slice none 0 0,.slice none 0 0,.int .i64 9,.int .i64 root,.int .i64 0,.string { data:=#[] },.slice none 0 0,.slice none 0 0,.slice none 0 0] 67)
 have b0:=bla (.cells #[.int .i64 2,.int .i64 n,.int .i64 0,.string { data:=#[] },.slice none 0 0,.slice none 0 0,.slice none 0 0,.int .i64 9,.int .i64 root,.int .i64 0,.string { data:=#[] },.slice none 0 0,.slice none 0 0,.slice none 0 0] 67) (bln w (.cells #[.string { data:=#[83,105,122,101] },.string { data:=#[82,111,111,116] }] 9))
 rw[World.size_alloc]at b1
 refine⟨.slice (some ⟨w.heap.size+1,0,none⟩) 2 2,.slice (some ⟨w.heap.size,0,none⟩) 2 2,.slice none 0 0,[.agg #[.int .i64 2,.int .i64 n,.int .i64 0,.string { data:=#[] },.slice none 0 0,.slice none 0 0,.slice none 0 0],.agg #[.int .i64 9,.int .i64 root,.int .i64 0,.string { data:=#[] },.slice none 0 0,.slice none 0 0,.slice none 0 0]],rfl,rfl,RowIn.of (b:=0) ⟨rfl,Or.inr ⟨_,_,_,rfl,Nat.zero_le _,b1,Nat.le_refl _,by decide,rfl,rfl⟩⟩ (fun _ _=>trivial),?_,RowIn.of (b:=0) ⟨rfl,Or.inr ⟨_,_,_,rfl,Nat.zero_le _,b0,Nat.le_refl _,by decide,rfl,rfl⟩⟩ (fun _ _=>trivial),RowIn.nil _ _ _ _⟩
 intro i x y hx hy
 match i,hx,hy with
 |0,hx,hy=>cases hx;cases hy;exact VIn.leaf 0 2 n 0 []
 |1,hx,hy=>cases hx;cases hy;exact VIn.leaf 0 9 root 0 []
 |i+2,hx,hy=>simp at hx
def Fo.wtrail(n root:Int):List Nat:=[116,114,97,105,108,101,114,10]++([60,60,47,83,105,122,101,32]++(Fo.wint n++([32,47,82,111,111,116,32]++(Fo.wint root++([32,48,32,82]++[62,62])))))++[10]
theorem tDw(n root:Int):60::60::(Fo.wjoin (((Node.keys (α:=VT 1) (tD n root)).zip (Node.items (α:=VT 1) (tD n root))).map fun z=>Fo.wname z.1++(32::Fo.wv (k:=1) z.2))++[62,62])=[60,60,47,83,105,122,101,32]++(Fo.wint n++([32,47,82,111,111,116,32]++(Fo.wint root++([32,48,32,82]++[62,62])))):=by
 have k1:Fo.wname [83,105,122,101]=[47,83,105,122,101]:=by decide
 have k2:Fo.wname [82,111,111,116]=[47,82,111,111,116]:=by decide
 show 60::60::(((Fo.wname [83,105,122,101]++(32::Fo.wint n))++((32::(Fo.wname [82,111,111,116]++(32::(Fo.wint root++[32,48,32,82]))))++[]))++[62,62])=_
 rw[k1,k2]
 simp
theorem tDl(n root:Int):Fo.wlen (k:=2) (tD n root)=364:=by rfl
theorem wto{E:Nat}{root:Int}(he:Env E w)(hEB:E≤B)(h:OutW B bf w ov pv out pl)(hpl:pl.length≤1000000)(hr : -9223372036854775808≤root∧root≤9223372036854775807)(hlen:out.length+400≤500000000) :
  Calls Tryz.prog 95 #[.pointer (some ⟨bf,0,none⟩),.int .i64 root] w (WrOut B bf w pv out pl (Fo.wtrail ((pl.length:Int)+1) root)):=by
 obtain⟨pa,pc,hpv⟩:=ows h.po
 subst hpv
 obtain⟨n,hn⟩:∃ n,pl.length=n:=⟨_,rfl⟩
 rw[hn]at hpl
 have HP:=hide (wput1 h { data:=#[116,114,97,105,108,101,114,10] } (by show _+8≤_;omega))
 rw[hn]at HP ⊢
 have HBE:Hid (∀ W,OutK B bf w W→Env E W):=fun W k=>he.outk hEB h k
 have HR:=hide hr
 clear h he hn hr
 go_enter Tryz.func95,Tryz.ntmps95
 go_wp2_with fail
 refine HP.o.mono ?_
 rintro e w1 ⟨rfl,ov1,h1,k1⟩
 have hblk1:=h1.blk
 have hl1:(out++bl { data:=#[116,114,97,105,108,101,114,10] }).length=out.length+8:=by rw[List.length_append];rfl
 have h2:=(h1.alloc (.cells #[.string { data:=#[83,105,122,101] },.string { data:=#[82,111,111,116] }] 9)).alloc (.cells #[.int .i64 2,.int .i64 ((n:Int)+1),.int .i64 0,.string { data:=#[] },.slice none 0 0,.slice none 0 0,.slice none 0 0,.int .i64 9,.int .i64 root,.int .i64 0,.string { data:=#[] },.slice none 0 0,.slice none 0 0,.slice none 0 0] 67)
 have k2:=((OutK.refl B bf w1).alloc (.cells #[.string { data:=#[83,105,122,101] },.string { data:=#[82,111,111,116] }] 9)).alloc (.cells #[.int .i64 2,.int .i64 ((n:Int)+1),.int .i64 0,.string { data:=#[] },.slice none 0 0,.slice none 0 0,.slice none 0 0,.int .i64 9,.int .i64 root,.int .i64 0,.string { data:=#[] },.slice none 0 0,.slice none 0 0,.slice none 0 0] 67)
 have HD:=hide (wdo (V:=tD ((n:Int)+1) root) (wvo 1) (HBE.o _ (k1.trans k2)) hEB h2 (tDi w1 _ _) (tDo (by omega) HR.o) rfl (by rw[hl1,tDl];omega))
 rw[tDw]at HD
 have K2:Hid (OutK B bf w _):=k1.trans k2
 have c1:(w1.alloc (.cells #[.string { data:=#[83,105,122,101] },.string { data:=#[82,111,111,116] }] 9)).cell? ⟨bf,1,none⟩=some (.slice pa n pc):=ceb (bla _ hblk1)
 clear h1 k1 h2 k2 HP
 go_wp2_with fail
 refine HD.o.mono ?_
 rintro e w3 ⟨rfl,ov3,h3,k3⟩
 have K3:Hid (OutK B bf w w3):=K2.o.trans k3
 have hwl1:=Fo.wint_len (n:=(n:Int)+1) (by omega) (by omega)
 have hwl2:=Fo.wint_len (n:=root) HR.o.1 HR.o.2
 have HP:=hide (wput1 h3 { data:=#[10] } (by
  show _+1≤_
  rw[List.length_append,hl1]
  simp only[List.length_append,List.length_cons,List.length_nil]
  omega))
 clear h3 k3 HD K2 hblk1 c1
 go_wp2_with fail
 refine HP.o.mono ?_
 rintro e w4 ⟨rfl,ov4,h4,k4⟩
 have H4:=hide h4
 have K4:Hid (OutK B bf w w4):=K3.o.trans k4
 clear h4 k4 HP K3
 go_wp2
 go_end0
 refine⟨rfl,ov4,?_,K4.o⟩
 have:=H4.o
 rw[List.append_assoc,List.append_assoc,show bl { data:=#[116,114,97,105,108,101,114,10] }=[116,114,97,105,108,101,114,10]from rfl,show bl { data:=#[10] }=[10]from rfl,←List.append_assoc [116,114,97,105,108,101,114,10]]at this
 exact this
end
section
variable{w w':World}
theorem strL:strN [76,101,110,103,116,104]={ data:=#[76,101,110,103,116,104] }:=by rfl
theorem strF:strN [70,105,108,116,101,114]={ data:=#[70,105,108,116,101,114] }:=by rfl
theorem og{W W':World}{row:Option Nat}{b e size n:Nat}{v:Value}{xs:List Value}(h:W.ownsRow b e size v n xs)(hg:W.grownBy W' row)(hne:∀ g,v.ownBlock=some g→row≠some g):W'.ownsRow b e size v n xs:=by
 obtain⟨h1,h2⟩:=h
 refine⟨h1,?_⟩
 rcases h2 with h2 | ⟨g,c,cur,e1,e2,hh,hc⟩
 ·exact Or.inl h2
 ·exact Or.inr ⟨g,c,cur,e1,e2,by rw[hg.block g (lt_of_block hh) (fun e=>hne g (by rw[e1];rfl) e.symm)];exact hh,hc⟩
theorem FilsAt.mono{W:World}{a b:Nat}{sv:Value}{fs:List Fil}(h:FilsAt a W sv fs)(hab:a≤b):FilsAt b W sv fs:=by
 rcases h with h | ⟨g,c,e,hg,hc⟩
 ·exact Or.inl h
 ·exact Or.inr ⟨g,c,e,Nat.lt_of_lt_of_le hg hab,hc⟩
theorem ot{W:World}{b b' e e' size size' n n':Nat}{v v':Value}{xs xs':List Value}(h:W.ownsRow b e size v n xs)(h':W.ownsRow b' e' size' v' n' xs')(hne:e≠e'):∀ g,v.ownBlock=some g→v'.ownBlock≠some g:=fun g hg hg'=>by
 obtain⟨_,c,f,hc⟩:=owr h g hg
 obtain⟨_,c',f',hc'⟩:=owr h' g hg'
 rw[hc]at hc'
 simp at hc'
 exact hne hc'.2.1
def Fo.sitems(j:Nat)(fs:List Nat)(n:Nat):List (VT (j+2)):=(leafN (VT (j+1)) 2 (n:Int) 0 []:VT (j+2))::(if fs=[]then[]else[Fo.namesV j fs])
def Fo.skeys(fs:List Nat):List (List Nat):=[76,101,110,103,116,104]::(if fs=[]then[]else[[70,105,108,116,101,114]])
def Fo.sdict(j:Nat)(V:Node (VT (j+2)))(n:Nat):Node (VT (j+2)):=⟨7,0,0,[],V.items++Fo.sitems j V.filters n,V.keys++Fo.skeys V.filters,[]⟩
def inV(n:Int):Value:=.agg #[.int .i64 2,.int .i64 n,.int .i64 0,.string { data:=#[] },.slice none 0 0,.slice none 0 0,.slice none 0 0]
def nV_(a:Option Addr)(n c:Nat):Value:=.agg #[.int .i64 6,.int .i64 0,.int .i64 0,.string { data:=#[] },.slice a n c,.slice none 0 0,.slice none 0 0]
theorem one7{a0 a1 a2 a3 a4 a5 a6:Value}(h:(a0.oneCell'&&a1.oneCell'&&a2.oneCell'&&a3.oneCell'&&a4.oneCell'&&a5.oneCell'&&a6.oneCell')=true):∀ u∈cellsOf (.agg #[a0,a1,a2,a3,a4,a5,a6]),u.oneCell'=true:=by
 intro u hu
 simp[cellsOf,Value.cells]at hu
 simp only[Bool.and_eq_true]at h
 rcases hu with rfl | rfl | rfl | rfl | rfl | rfl | rfl<;>simp[h]
theorem cells7{W:World}{b:Nat}{a0 a1 a2 a3 a4 a5 a6:Value}(hb:W.heap[b]?=some (.cells #[a0,a1,a2,a3,a4,a5,a6] 67 (0,0))):∀(j:Nat) (u:Value),(cellsOf (.agg #[a0,a1,a2,a3,a4,a5,a6]))[j]?=some u→W.cell? ((⟨b,0,none⟩:Addr).add j)=some u:=by
 intro j u h
 rw[aa,ceb hb]
 rw[←h]
 simp[cellsOf,Value.cells]
theorem nVi{W:World}{j b:Nat}{a:Option Addr}{c:Nat}{fs:List Fil}(h:W.ownsRow b 67 7 (.slice a fs.length c) fs.length (fs.flatMap fun x=>cellsOf (naV x.1))):VIn (fun _=>True) (j+2) W (nV_ a fs.length c) (Fo.namesV j (fs.map fun x=>x.1)):=by
 refine⟨.slice a fs.length c,.slice none 0 0,.slice none 0 0,fs.map (fun x=>naV x.1),rfl,?_,?_,?_,RowIn.nil _ _ _ _,RowIn.nil _ _ _ _⟩
 ·show(fs.map (fun x=>naV x.1)).length=(((fs.map fun x=>x.1)).map (fun f=>(leafN (VT j) 4 0 0 (bl (Fo.nameB f)):VT (j+1)))).length
  simp
 ·rw[List.length_map,List.flatMap_map]
  exact RowIn.of h (fun _ _=>trivial)
 ·intro i x y hx hy
  have hy2:(((fs.map fun x=>x.1)).map (fun f=>(leafN (VT j) 4 0 0 (bl (Fo.nameB f)):VT (j+1))))[i]?=some y:=hy
  rw[List.getElem?_map]at hx
  rw[List.getElem?_map,List.getElem?_map]at hy2
  cases hf:fs[i]? with
  |none=>rw[hf]at hx;cases hx
  |some f =>
   rw[hf]at hx hy2
   cases hx
   cases hy2
   have:=VIn.leaf (P:=fun _=>True) (w:=W) j 4 0 0 (bl (Fo.nameB f.1))
   rw[sNb]at this
   exact this
theorem ooS{W W':World}{S b e size n:Nat}{v:Value}{xs:List Value}(h:W.ownsRow b e size v n xs)(o:Only S W W')(hne:∀ g,v.ownBlock=some g→g≠S):W'.ownsRow b e size v n xs:=by
 obtain⟨h1,h2⟩:=h
 refine⟨h1,?_⟩
 rcases h2 with h2 | ⟨g,c,cur,e1,e2,hh,hc⟩
 ·exact Or.inl h2
 ·exact Or.inr ⟨g,c,cur,e1,e2,by rw[o.block g (lt_of_block hh) (hne g (by rw[e1];rfl))];exact hh,hc⟩
theorem iVi{W:World}(j:Nat)(n:Nat):VIn (fun _=>True) (j+2) W (inV (n:Int)) (leafN (VT (j+1)) 2 (n:Int) 0 []):=VIn.leaf (P:=fun _=>True) (w:=W) (j+1) 2 (n:Int) 0 []
theorem si{W:World}{j b b':Nat}{V:Node (VT (j+2))}{n:Nat}{iv kv:Value}{vs us:List Value}(hvl:vs.length=V.items.length)(hul:us.length=(Fo.sitems j V.filters n).length)
  (hi:W.ownsRow b 67 7 iv (vs++us).length ((vs++us).flatMap cellsOf)) (hk:W.ownsRow b' 9 1 kv (V.keys++Fo.skeys V.filters).length ((V.keys++Fo.skeys V.filters).map fun s=>.string (strN s)))
  (h1:∀(i:Nat) (x:Value) (y:VT (j+2)),vs[i]?=some x→V.items[i]?=some y→VIn (fun _=>True) (j+2) W x y) (h2:∀(i:Nat) (x:Value) (y:VT (j+2)),us[i]?=some x→(Fo.sitems j V.filters n)[i]?=some y→VIn (fun _=>True) (j+2) W x y) :
  VIn (fun _=>True) (j+3) W (.agg #[.int .i64 7,.int .i64 0,.int .i64 0,.string { data:=#[] },iv,kv,.slice none 0 0]) (Fo.sdict j V n):=by
 refine⟨iv,kv,.slice none 0 0,vs++us,rfl,?_,RowIn.of hi (fun _ _=>trivial),?_,RowIn.of hk (fun _ _=>trivial),RowIn.nil _ _ _ _⟩
 ·show _=(V.items++Fo.sitems j V.filters n).length
  rw[List.length_append,List.length_append,hvl,hul]
 ·intro i x y hx hy
  have hy2:(V.items++Fo.sitems j V.filters n)[i]?=some y:=hy
  by_cases c:i<vs.length
  ·rw[List.getElem?_append_left c]at hx
   rw[List.getElem?_append_left (by omega)]at hy2
   exact h1 i x y hx hy2
  ·rw[List.getElem?_append_right (by omega)]at hx
   rw[List.getElem?_append_right (by omega)]at hy2
   rw[←hvl]at hy2
   exact h2 _ x y hx hy2
theorem wo3{j:Nat}{P:Nat→Prop}{v:Value}{V:Node (VT (j+2))}{fs:List Fil}(hv:VIn P (j+3) w v V)(hfs:V.filters=fs.map fun x=>x.1)(hfl:fs.length≤100)(hil:V.items.length≤500000)(hkl:V.keys.length≤500000)(n:Nat) :
  Calls Tryz.prog 179 #[v,.int .i64 (n:Int)] w fun e w'=>∃ v',e=.returned v'∧VIn (fun _=>True) (j+3) w' v' (Fo.sdict j V n)∧Below w.heap.size w w':=by
 obtain⟨iv,kv,fv,vs,rfl,hvl,hri,hvs,hrk,hrf⟩:=hv
 have HVL:Hid (vs.length=V.items.length):=hvl
 rw[hvl]at hri
 obtain⟨ia,ic,rfl⟩:=ows hri.1
 obtain⟨ka,kc,rfl⟩:=ows hrk.1
 obtain⟨fa,fc,rfl⟩:=ows hrf.1
 unfold nV
 obtain⟨is,hs,hs0,hs1,hs2⟩:=info_parts iS
 obtain⟨iz,hz,hz0,hz1,hz2⟩:=info_parts iV
 have hone:∀ y∈vs.flatMap cellsOf,y.oneCell'=true:=fun y hy=>by
  obtain⟨x,hx,hy⟩:=List.mem_flatMap.1 hy
  obtain⟨i,hi,rfl⟩:=List.getElem_of_mem hx
  exact(hvs i _ (V.items[i]'(by rw[hvl]at hi;exact hi)) (List.getElem?_eq_getElem hi) (List.getElem?_eq_getElem (by rw[hvl]at hi;exact hi))).cells.2 y hy
 have hFA:FilsAt w.heap.size w (.slice fa V.filters.length fc) fs:=by
  rcases hrf.1.2 with⟨h1,h2⟩ | ⟨g,c,cur,e1,e2,hg,hn,hm,hsz,hc⟩
  ·refine Or.inl ⟨h1,?_⟩
   have h3:(fs.map fun x=>x.1).length=0:=by rw[←hfs];exact h2
   simpa using h3
  ·refine Or.inr ⟨g,c,?_,lt_of_block hg,fun i hi=>?_⟩
   ·rw[e1]
    show Value.slice _ V.filters.length c=_
    rw[hfs,List.length_map]
   ·rw[ceb hg,←Array.getElem?_toList]
    have hi2:i<V.filters.length:=by rw[hfs,List.length_map];exact hi
    rw[←List.getElem?_take_of_lt (show i<V.filters.length*1 by omega)]
    rw[show cur.toList.take (V.filters.length*1)=_ from hc]
    show(V.filters.map fun f:Nat=>Value.int .i64 (f:Int))[i]?=_
    rw[hfs,List.getElem?_map,List.getElem?_map,List.getElem?_eq_getElem hi]
    simp
 have HFL:Hid (V.filters.length=fs.length):=by unfold Hid;rw[hfs,List.length_map]
 have HRI:=hide hri
 have HRK:=hide hrk
 have HVS:=hide hvs
 have HFS:=hide hfs
 have HFA:=hide hFA
 have HONE:=hide hone
 have HNI:Hid (∃ z,z=V.items.length):=⟨_,rfl⟩
 obtain⟨NI,hNI⟩:∃ z,z=V.items.length:=⟨_,rfl⟩
 obtain⟨NK,hNK⟩:∃ z,z=V.keys.length:=⟨_,rfl⟩
 obtain⟨NF,hNF⟩:∃ z,z=V.filters.length:=⟨_,rfl⟩
 have EI:=hide hNI
 have EK:=hide hNK
 have EF:=hide hNF
 rw[←hNI]at hil HRI
 rw[←hNK]at hkl
 change Calls Tryz.prog 179 #[.agg #[.int .i64 (V.kind:Int),.int .i64 V.n,.int .i64 (V.places:Int),.string (strN V.text),.slice ia V.items.length ic,.slice ka V.keys.length kc,.slice fa V.filters.length fc],.int .i64 (n:Int)] w _
 rw[←hNI,←hNK,←hNF]
 have HRK2:Hid (w.ownsRow 0 9 1 (.slice ka NK kc) NK (V.keys.map fun s=>.string (strN s))):=by unfold Hid;rw[hNK];exact HRK.o.1
 have HFA2:Hid (FilsAt w.heap.size w (.slice fa NF fc) fs):=by unfold Hid;rw[hNF];exact HFA.o
 clear hri hrk hrf hvs hfs hFA hone hNI hNK hNF hvl HRK HFA HNI
 have bA:Below w.heap.size w (w.alloc (.cells #[.int .i64 (V.kind:Int),.int .i64 V.n,.int .i64 (V.places:Int),.string (strN V.text),.slice ia NI ic,.slice ka NK kc,.slice fa NF fc] 67)):=(Below.refl _ _).alloc (Nat.le_refl _) _
 have bB:=bA.alloc (by simp) (.cells #[.int .i64 0,.int .i64 0,.int .i64 0,.string { data:=#[] },.slice none 0 0,.slice none 0 0,.slice none 0 0] 67)
 have bC:=bB.alloc (by simp;omega) (.cells #[.string { data:=#[76,101,110,103,116,104] }] 9)
 have bD:=bC.alloc (by simp;omega) (.cells #[.slice ka NK kc,.slice (some ⟨w.heap.size+1+1,0,none⟩) 1 1] 38)
 have xA:=bln w (.cells #[.int .i64 (V.kind:Int),.int .i64 V.n,.int .i64 (V.places:Int),.string (strN V.text),.slice ia NI ic,.slice ka NK kc,.slice fa NF fc] 67)
 have xB:=bln (w.alloc (.cells #[.int .i64 (V.kind:Int),.int .i64 V.n,.int .i64 (V.places:Int),.string (strN V.text),.slice ia NI ic,.slice ka NK kc,.slice fa NF fc] 67)) (.cells #[.int .i64 0,.int .i64 0,.int .i64 0,.string { data:=#[] },.slice none 0 0,.slice none 0 0,.slice none 0 0] 67)
 have xC:=bln ((w.alloc (.cells #[.int .i64 (V.kind:Int),.int .i64 V.n,.int .i64 (V.places:Int),.string (strN V.text),.slice ia NI ic,.slice ka NK kc,.slice fa NF fc] 67)).alloc (.cells #[.int .i64 0,.int .i64 0,.int .i64 0,.string { data:=#[] },.slice none 0 0,.slice none 0 0,.slice none 0 0] 67)) (.cells #[.string { data:=#[76,101,110,103,116,104] }] 9)
 have xD:=bln (((w.alloc (.cells #[.int .i64 (V.kind:Int),.int .i64 V.n,.int .i64 (V.places:Int),.string (strN V.text),.slice ia NI ic,.slice ka NK kc,.slice fa NF fc] 67)).alloc (.cells #[.int .i64 0,.int .i64 0,.int .i64 0,.string { data:=#[] },.slice none 0 0,.slice none 0 0,.slice none 0 0] 67)).alloc (.cells #[.string { data:=#[76,101,110,103,116,104] }] 9)) (.cells #[.slice ka NK kc,.slice (some ⟨w.heap.size+1+1,0,none⟩) 1 1] 38)
 simp only[World.size_alloc]at xB xC xD
 have xA:=bla (.cells #[.slice ka NK kc,.slice (some ⟨w.heap.size+1+1,0,none⟩) 1 1] 38) (bla (.cells #[.string { data:=#[76,101,110,103,116,104] }] 9) (bla (.cells #[.int .i64 0,.int .i64 0,.int .i64 0,.string { data:=#[] },.slice none 0 0,.slice none 0 0,.slice none 0 0] 67) xA))
 have xB:=bla (.cells #[.slice ka NK kc,.slice (some ⟨w.heap.size+1+1,0,none⟩) 1 1] 38) (bla (.cells #[.string { data:=#[76,101,110,103,116,104] }] 9) xB)
 have xC:=bla (.cells #[.slice ka NK kc,.slice (some ⟨w.heap.size+1+1,0,none⟩) 1 1] 38) xC
 generalize hWD:(((w.alloc (.cells #[.int .i64 (V.kind:Int),.int .i64 V.n,.int .i64 (V.places:Int),.string (strN V.text),.slice ia NI ic,.slice ka NK kc,.slice fa NF fc] 67)).alloc (.cells #[.int .i64 0,.int .i64 0,.int .i64 0,.string { data:=#[] },.slice none 0 0,.slice none 0 0,.slice none 0 0] 67)).alloc (.cells #[.string { data:=#[76,101,110,103,116,104] }] 9)).alloc (.cells #[.slice ka NK kc,.slice (some ⟨w.heap.size+1+1,0,none⟩) 1 1] 38)=WD at *
 have hc:=hide (cS (c:=2) xD (owb HRK2.o bD) (s1:=.slice (some ⟨w.heap.size+1+1,0,none⟩) 1 1) (n1:=1) (xs1:=[.string { data:=#[76,101,110,103,116,104] }]) ⟨rfl,Or.inr ⟨_,_,_,rfl,Nat.zero_le _,xC,Nat.le_refl _,by decide,rfl,rfl⟩⟩ (fun y hy=>by obtain⟨s,_,rfl⟩:=List.mem_map.1 hy;rfl) (fun y hy=>by simp at hy;subst hy;rfl) (by omega) (by omega))
 have HA:=hide xA
 have HB:=hide xB
 have BD:=hide bD
 have hWs:w.heap.size+3<WD.heap.size:=lt_of_block xD
 clear bA bB bC bD xA xB xC xD
 have hWD:=hWD
 go_enter Tryz.func179,Tryz.ntmps179
 go_wp2_with fail
 try rw[hWD]
 refine hc.o.mono ?_
 rintro e w1 ⟨v1,rfl,own1,b1⟩
 clear hWD hc
 have xA1:=(b1.block _ (by omega)).trans HA.o
 have xB1:=(b1.block (w.heap.size+1) (by omega)).trans HB.o
 have B1:=hide (BD.o.trans (b1.mono BD.o.size))
 have h1s:=b1.size
 have a4:w1.cell? ⟨w.heap.size,4,none⟩=some (.slice ia NI ic):=ceb xA1
 obtain⟨ka1,kc1,rfl⟩:=ows own1
 have O1:=hide own1
 have HKL:Hid (∀ g,(Value.slice ka1 (NK+1) kc1).ownBlock=some g→g<w1.heap.size):=fun g hg=>(own1.lt g hg).2
 clear own1 b1 HA HB BD
 have bE:Below w1.heap.size w1 (w1.alloc (.cells #[.int .i64 2,.int .i64 (n:Int),.int .i64 0,.string { data:=#[] },.slice none 0 0,.slice none 0 0,.slice none 0 0] 67)):=(Below.refl _ _).alloc (Nat.le_refl _) _
 have bF:=bE.alloc (by simp) (.cells #[.slice ia NI ic,.slice (some ⟨w1.heap.size,0,none⟩) 1 1] 29)
 have xE:=bla (.cells #[.slice ia NI ic,.slice (some ⟨w1.heap.size,0,none⟩) 1 1] 29) (bln w1 (.cells #[.int .i64 2,.int .i64 (n:Int),.int .i64 0,.string { data:=#[] },.slice none 0 0,.slice none 0 0,.slice none 0 0] 67))
 have xF:=bln (w1.alloc (.cells #[.int .i64 2,.int .i64 (n:Int),.int .i64 0,.string { data:=#[] },.slice none 0 0,.slice none 0 0,.slice none 0 0] 67)) (.cells #[.slice ia NI ic,.slice (some ⟨w1.heap.size,0,none⟩) 1 1] 29)
 simp only[World.size_alloc]at xF
 generalize hWF:(w1.alloc (.cells #[.int .i64 2,.int .i64 (n:Int),.int .i64 0,.string { data:=#[] },.slice none 0 0,.slice none 0 0,.slice none 0 0] 67)).alloc (.cells #[.slice ia NI ic,.slice (some ⟨w1.heap.size,0,none⟩) 1 1] 29)=WF at *
 have hc:=hide (coV (c:=2) xF (owb HRI.o.1 (B1.o.trans (bF.mono B1.o.size))) (s1:=.slice (some ⟨w1.heap.size,0,none⟩) 1 1) (n1:=1) (xs1:=cellsOf (inV n)) ⟨rfl,Or.inr ⟨_,_,_,rfl,Nat.zero_le _,xE,Nat.le_refl _,by decide,rfl,rfl⟩⟩ HONE.o (one7 rfl) (by omega) (by omega))
 have xA2:=hide ((bF.block _ (by omega)).trans xA1)
 have xB2:=hide ((bF.block (w.heap.size+1) (by omega)).trans xB1)
 have B2:=hide (B1.o.trans (bF.mono B1.o.size))
 have O2:=hide (owb O1.o bF)
 have h2s:=bF.size
 clear bE bF xE xF xA1 xB1 B1 O1
 go_wp2_with fail
 try rw[hWF]
 refine hc.o.mono ?_
 rintro e w3 ⟨v3,rfl,own3,b3⟩
 clear hWF hc a4
 have xA3:=(b3.block _ (by omega)).trans xA2.o
 have xB3:=(b3.block (w.heap.size+1) (by omega)).trans xB2.o
 have B3:=hide (B2.o.trans (b3.mono B2.o.size))
 have h3s:=b3.size
 have a6:w3.cell? ⟨w.heap.size,6,none⟩=some (.slice fa NF fc):=ceb xA3
 have O3:=hide (owb O2.o b3)
 obtain⟨ia3,ic3,rfl⟩:=ows own3
 have P3:=hide own3
 have HK3:Hid (∀(i:Nat) (x:Value) (y:VT (j+2)),vs[i]?=some x→V.items[i]?=some y→∀ W,Below w.heap.size w W→VIn (fun _=>True) (j+2) W x y):=fun i x y hx hy W b=>((HVS.o i x y hx hy).keep _ (fun g _ hg=>b.block g hg)).mono _ (fun _ _ _=>trivial)
 clear own3 b3 O2 xA2 xB2 B2
 rcases Nat.eq_zero_or_pos NF with h0 | h0
 ·subst h0
  have HF0:Hid (V.filters=[]):=List.length_eq_zero_iff.1 EF.o.symm
  clear xA3
  have r0:w3.cell? ⟨w.heap.size+1,0,none⟩=some (.int .i64 0):=ceb xB3
  have f0:w3.frozen? ⟨w.heap.size+1,0,none⟩=false:=frb xB3
  have r1:w3.cell? ⟨w.heap.size+1,1,none⟩=some (.int .i64 0):=ceb xB3
  have f1:w3.frozen? ⟨w.heap.size+1,1,none⟩=false:=frb xB3
  have r2:w3.cell? ⟨w.heap.size+1,2,none⟩=some (.int .i64 0):=ceb xB3
  have f2:w3.frozen? ⟨w.heap.size+1,2,none⟩=false:=frb xB3
  have r3:w3.cell? ⟨w.heap.size+1,3,none⟩=some (.string { data:=#[] }):=ceb xB3
  have f3:w3.frozen? ⟨w.heap.size+1,3,none⟩=false:=frb xB3
  have r4:w3.cell? ⟨w.heap.size+1,4,none⟩=some (.slice none 0 0):=ceb xB3
  have f4:w3.frozen? ⟨w.heap.size+1,4,none⟩=false:=frb xB3
  have r5:w3.cell? ⟨w.heap.size+1,5,none⟩=some (.slice none 0 0):=ceb xB3
  have f5:w3.frozen? ⟨w.heap.size+1,5,none⟩=false:=frb xB3
  have r6:w3.cell? ⟨w.heap.size+1,6,none⟩=some (.slice none 0 0):=ceb xB3
  have f6:w3.frozen? ⟨w.heap.size+1,6,none⟩=false:=frb xB3
  have HS:=hide (set7 (by unfold zero7;exact xB3) (.int .i64 7) (.int .i64 0) (.int .i64 0) (.string { data:=#[] }) (.slice ia3 (NI+1) ic3) (.slice ka1 (NK+1) kc1) (.slice none 0 0))
  have HO:=hide (only7 w3 (w.heap.size+1) (.int .i64 7) (.int .i64 0) (.int .i64 0) (.string { data:=#[] }) (.slice ia3 (NI+1) ic3) (.slice ka1 (NK+1) kc1) (.slice none 0 0))
  clear xB3
  go_wp2
  refine bodyPost_ret (v:=.agg #[.int .i64 7,.int .i64 0,.int .i64 0,.string { data:=#[] },.slice ia3 (NI+1) ic3,.slice ka1 (NK+1) kc1,.slice none 0 0]) ?_ rfl ?_
  ·exact results_cell_row Tryz.results179 _ _ (w.heap.size+1) 67 _ _ _ rfl HS.o Tryz.underlying67 rfl (by kernel_rfl)
  have o:=HO.o
  have hb:Below w.heap.size w3 _:=⟨o.os,o.tape,o.output,o.size,fun k hk=>o.block k (Nat.lt_of_lt_of_le hk B3.o.size) (by omega)⟩
  have hB:=B3.o.trans hb
  refine⟨_,rfl,si (vs:=vs) (us:=[inV n]) HVL.o (by unfold Fo.sitems;rw[if_pos HF0.o];rfl) (ooS (by simpa[EI.o,HVL.o]using P3.o) o (fun g hg=>by have:=(P3.o.lt g hg).1;omega)) (ooS (by simpa[EK.o,Fo.skeys,HF0.o,strL]using O3.o) o (fun g hg=>by have:=(O3.o.lt g hg).1;omega)) (fun i x y hx hy=>HK3.o i x y hx hy _ hB) ?_,hB⟩
  intro i x y hx hy
  unfold Fo.sitems at hy
  match i,hx,hy with
  |0,hx,hy=>cases hx;cases hy;exact iVi j n
  |i+1,hx,hy=>simp at hx
 ·have HF0:Hid (V.filters≠[]):=fun h=>by have:=EF.o;rw[h]at this;simp at this;omega
  have a6:=a6
  go_wp2_with (at_builtin;refine wpList_append_own _ rfl (.tmp 23) (.tmp 24) 38 rfl WD.heap.size 9 is _ 1 16 Tryz.underlying38 hs hs0 hs1 hs2 rfl (by decide) _ (NK+1) _ rfl (O3.o.alloc _) ⟨w3.heap.size,0,none⟩ 1 1 [.string { data:=#[70,105,108,116,101,114] }] rfl rfl ?hnews ?hone ?h63 ?hby ?hbs ?_)
  case hnews =>
   intro i u hu
   match i,hu with
   |0,hu=>cases hu;rw[aa,ceb (bln _ _)];rfl
   |i+1,hu=>simp at hu
  case hone=>intro u hu;simp at hu;subst hu;rfl
  case h63=>unfold maxLen;omega
  case hby=>omega
  case hbs=>simp;omega
  intro v4 w4 own4 hg4 _
  have hlow:∀ k,k<WD.heap.size→w4.heap[k]?=w3.heap[k]?:=fun k hk=>by
   rw[hg4.block k (by simp;omega) (fun e=>by have:=(O3.o.lt k e.symm).1;omega),Below.heap_alloc _ _ _ (by omega)]
  have hlow3:∀ k,k<w3.heap.size→(∀ g,(Value.slice ka1 (NK+1) kc1).ownBlock=some g→g≠k)→w4.heap[k]?=w3.heap[k]?:=fun k hk hne=>by
   rw[hg4.block k (by simp;omega) (fun e=>hne k e.symm rfl),Below.heap_alloc _ _ _ hk]
  have xA4:=(hlow _ (by omega)).trans xA3
  have xB4:=hide ((hlow (w.heap.size+1) (by omega)).trans xB3)
  have h4s:w3.heap.size≤w4.heap.size:=Nat.le_trans (by simp) hg4.size
  have B4:=hide (B3.o.trans ⟨hg4.os,hg4.tape,hg4.output,h4s,fun k hk=>hlow k (by omega)⟩)
  have P4:=hide (og (P3.o.alloc _) hg4 (fun g hg e=>ot (P3.o.alloc (.cells #[.string { data:=#[70,105,108,116,101,114] }] 9)) (O3.o.alloc _) (by decide) g hg e))
  have PL:Hid (∀ g,(Value.slice ia3 (NI+1) ic3).ownBlock=some g→WF.heap.size≤g∧g<w3.heap.size):=fun g hg=>P3.o.lt g hg
  have b6:w4.cell? ⟨w.heap.size,6,none⟩=some (.slice fa NF fc):=ceb xA4
  obtain⟨ka4,kc4,rfl⟩:=ows own4
  have O4:=hide own4
  have HFN:=hide (wfo (w:=w4) (FilsAt.mono (HFA2.o.below B4.o) B4.o.size) (by omega) (by rw[EF.o,HFL.o]))
  clear own4 hg4 hlow hlow3 xA3 xB3 xA4 O3 P3 B3 a6
  go_wp2_with fail
  refine HFN.o.mono ?_
  rintro e w5 ⟨a5,c5,rfl,own5,b5⟩
  have xB5:=hide ((b5.block (w.heap.size+1) (by omega)).trans xB4.o)
  have B5:=hide (B4.o.trans (b5.mono B4.o.size))
  have O5:=hide (owb O4.o b5)
  have P5:=hide (owb P4.o b5)
  have h5s:=b5.size
  have N5:=hide own5
  obtain⟨NN,hNN⟩:∃ z,z=fs.length:=⟨_,rfl⟩
  have HNN:=hide hNN
  rw[←hNN]at N5 hfl ⊢
  clear hNN
  clear own5 b5 O4 P4 B4 xB4 HFN b6
  go_wp2_with (at_builtin;refine wpList_append_own _ rfl (.tmp 26) (.tmp 30) 29 rfl WF.heap.size 67 iz _ 7 112 Tryz.underlying29 hz hz0 hz1 hz2 rfl (by decide) _ (NI+1) _ rfl (P5.o.alloc _) ⟨w5.heap.size,0,none⟩ 1 1 (cellsOf (nV_ a5 NN c5)) rfl rfl ?hnews ?hone ?h63 ?hby ?hbs ?_)
  case hnews=>exact cells7 (bln _ _)
  case hone=>exact one7 rfl
  case h63=>unfold maxLen;omega
  case hby=>omega
  case hbs=>simp;omega
  intro v6 w6 own6 hg6 _
  have h6s:w5.heap.size≤w6.heap.size:=Nat.le_trans (by simp) hg6.size
  have hlow:∀ k,k<w5.heap.size→(k<WF.heap.size∨w3.heap.size≤k)→w6.heap[k]?=w5.heap[k]?:=fun k hk hne=>by
   rw[hg6.block k (by simp;omega) (fun e=>by have:=PL.o k e.symm;omega),Below.heap_alloc _ _ _ hk]
  have xB6:=(hlow (w.heap.size+1) (by omega) (by omega)).trans xB5.o
  have B6:=hide (B5.o.trans ⟨hg6.os,hg6.tape,hg6.output,h6s,fun k hk=>hlow k (by omega) (by omega)⟩)
  have O6:=hide (og (O5.o.alloc _) hg6 (fun g hg e=>ot (O5.o.alloc (.cells #[.int .i64 6,.int .i64 0,.int .i64 0,.string { data:=#[] },.slice a5 NN c5,.slice none 0 0,.slice none 0 0] 67)) (P5.o.alloc _) (by decide) g hg e))
  have N6:=hide (og (N5.o.alloc _) hg6 (fun g hg e=>by have h1:=(N5.o.lt g hg).1;have h2:=PL.o g e;omega))
  obtain⟨ia6,ic6,rfl⟩:=ows own6
  have P6:=hide own6
  clear own6 hg6 hlow xB5 B5 O5 P5 N5
  have r0:w6.cell? ⟨w.heap.size+1,0,none⟩=some (.int .i64 0):=ceb xB6
  have f0:w6.frozen? ⟨w.heap.size+1,0,none⟩=false:=frb xB6
  have r1:w6.cell? ⟨w.heap.size+1,1,none⟩=some (.int .i64 0):=ceb xB6
  have f1:w6.frozen? ⟨w.heap.size+1,1,none⟩=false:=frb xB6
  have r2:w6.cell? ⟨w.heap.size+1,2,none⟩=some (.int .i64 0):=ceb xB6
  have f2:w6.frozen? ⟨w.heap.size+1,2,none⟩=false:=frb xB6
  have r3:w6.cell? ⟨w.heap.size+1,3,none⟩=some (.string { data:=#[] }):=ceb xB6
  have f3:w6.frozen? ⟨w.heap.size+1,3,none⟩=false:=frb xB6
  have r4:w6.cell? ⟨w.heap.size+1,4,none⟩=some (.slice none 0 0):=ceb xB6
  have f4:w6.frozen? ⟨w.heap.size+1,4,none⟩=false:=frb xB6
  have r5:w6.cell? ⟨w.heap.size+1,5,none⟩=some (.slice none 0 0):=ceb xB6
  have f5:w6.frozen? ⟨w.heap.size+1,5,none⟩=false:=frb xB6
  have r6:w6.cell? ⟨w.heap.size+1,6,none⟩=some (.slice none 0 0):=ceb xB6
  have f6:w6.frozen? ⟨w.heap.size+1,6,none⟩=false:=frb xB6
  have HS:=hide (set7 (by unfold zero7;exact xB6) (.int .i64 7) (.int .i64 0) (.int .i64 0) (.string { data:=#[] }) (.slice ia6 (NI+1+1) ic6) (.slice ka4 (NK+1+1) kc4) (.slice none 0 0))
  have HO:=hide (only7 w6 (w.heap.size+1) (.int .i64 7) (.int .i64 0) (.int .i64 0) (.string { data:=#[] }) (.slice ia6 (NI+1+1) ic6) (.slice ka4 (NK+1+1) kc4) (.slice none 0 0))
  clear xB6
  go_wp2
  refine bodyPost_ret (v:=.agg #[.int .i64 7,.int .i64 0,.int .i64 0,.string { data:=#[] },.slice ia6 (NI+1+1) ic6,.slice ka4 (NK+1+1) kc4,.slice none 0 0]) ?_ rfl ?_
  ·exact results_cell_row Tryz.results179 _ _ (w.heap.size+1) 67 _ _ _ rfl HS.o Tryz.underlying67 rfl (by kernel_rfl)
  have o:=HO.o
  have hb:Below w.heap.size w6 _:=⟨o.os,o.tape,o.output,o.size,fun k hk=>o.block k (Nat.lt_of_lt_of_le hk B6.o.size) (by omega)⟩
  have hB:=B6.o.trans hb
  refine⟨_,rfl,si (vs:=vs) (us:=[inV n,nV_ a5 NN c5]) HVL.o (by unfold Fo.sitems;rw[if_neg HF0.o];rfl) (ooS (by simpa[EI.o,HVL.o]using P6.o) o (fun g hg=>by have:=(P6.o.lt g hg).1;omega)) (ooS (by simpa[EK.o,Fo.skeys,HF0.o,strL,strF]using O6.o) o (fun g hg=>by have:=(O6.o.lt g hg).1;omega)) (fun i x y hx hy=>HK3.o i x y hx hy _ hB) ?_,hB⟩
  intro i x y hx hy
  unfold Fo.sitems at hy
  rw[if_neg HF0.o,HFS.o]at hy
  match i,hx,hy with
  |0,hx,hy=>cases hx;cases hy;exact iVi j n
  |1,hx,hy =>
   cases hx;cases hy
   have hN:=ooS N6.o o (fun g hg=>by have:=(N6.o.lt g hg).1;omega)
   rw[HNN.o]at hN ⊢
   exact nVi hN
  |i+2,hx,hy=>simp at hx
end
end Go.Proofs.YtgkljcmjnphpeaaGreatDoor
