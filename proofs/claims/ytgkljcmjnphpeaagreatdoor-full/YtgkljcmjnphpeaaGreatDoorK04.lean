import Derived.Test.YtgkljcmjnphpeaaGreatDoorK03
set_option linter.unusedVariables false
set_option linter.unusedSimpArgs false
set_option maxHeartbeats 2000000
set_option maxRecDepth 100000
namespace Go.Proofs.YtgkljcmjnphpeaaGreatDoor
open Go.RowKit
section
namespace Fo
def nameS:Nat→Nat→List Nat→Option (List Nat × List Nat)
 |0,_,[]=>some ([],[])
 |_+1,_,[]=>none
 |0,_,b::r=>if pB b=false then some ([],b::r)else if b<33∨126<b then none else if b=35 then nameS 1 0 r else(nameS 0 0 r).map fun x=>(b::x.1,x.2)
 |1,_,b::r=>match hexVal b with
  |none=>none
  |some a=>nameS 2 a r
 |_+2,a,b::r=>match hexVal b with
  |none=>none
  |some c=>if 16*a+c=0 then none else(nameS 0 0 r).map fun x=>((16*a+c)::x.1,x.2)
def name(r:List Nat):Option (List Nat × List Nat):=nameS 0 0 r
end Fo
variable{B bs cap:Nat}{ao:Option Addr}{data:List Nat}{x2 x3 x4:Value}{w w':World}{r q:List Nat}
def SRes(B bs:Nat)(ao:Option Addr)(cap:Nat)(data:List Nat)(x2 x3 x4:Value){α:Type}(val:World→α→Value→Prop)(o:Option (α × List Nat))(w:World)(e:Ending)(w':World):Prop:=
 match o with
 |some (a,q)=>∃ v,e=.returned v∧val w' a v∧Sc B bs ao cap data x2 x3 x4 w' q∧Only bs w w'
 |none=>e=gU 4∧Only bs w w'
def strV(_:World)(l:List Nat)(v:Value):Prop:=v=.string (strN l)
structure Bu(w0:World)(B bs:Nat)(ao:Option Addr)(cap:Nat)(data:List Nat)(x2 x3 x4:Value)(w:World)(q:List Nat)(ov:Value)(out:List Nat):Prop where
 sc:Sc B bs ao cap data x2 x3 x4 w q
 own:w.ownsRow w0.heap.size 5 1 ov out.length (out.map fun x:Nat=>.int .u8 (x:Int))
 only:Only bs w0 w
 lt:bs<w0.heap.size
 few:out.length+q.length≤200000
variable{w0:World}{ov:Value}{out:List Nat}
theorem owo{b n size e base:Nat}{v:Value}{xs:List Value}(h:w.ownsRow base e size v n xs)(k:Only b w w')(hb:b<base):w'.ownsRow base e size v n xs:=by
 obtain⟨h1,h2⟩:=h
 refine⟨h1,?_⟩
 rcases h2 with h2 | ⟨g,c,cur,e1,e2,hh,hc⟩
 ·exact Or.inl h2
 ·exact Or.inr ⟨g,c,cur,e1,e2,by rw[k.block g (lt_of_block hh) (by omega)];exact hh,hc⟩
theorem Bu.start(h:Sc B bs ao cap data x2 x3 x4 w r):Bu w B bs ao cap data x2 x3 x4 w r (.slice none 0 0) []:=
 ⟨h,World.ownsRow_nil _ _ _ _,Only.refl _ _,h.lt,by have:=h.le;have:=h.len;simp only[List.length_nil];omega⟩
theorem Bu.step(h:Bu w0 B bs ao cap data x2 x3 x4 w q ov out){q':List Nat}(hs:Sc B bs ao cap data x2 x3 x4 w' q')(k:Only bs w w')(hq:q'.length≤q.length):Bu w0 B bs ao cap data x2 x3 x4 w' q' ov out:=
 ⟨hs,owo h.own k h.lt,h.only.trans k,h.lt,by have:=h.few;omega⟩
theorem Bu.drewN(h:Bu w0 B bs ao cap data x2 x3 x4 w q ov out)(n:Nat):Bu w0 B bs ao cap data x2 x3 x4 (w.drewN n) q ov out:=h.step (h.sc.drewN n) ((Only.refl _ _).drewN n) (Nat.le_refl _)
theorem Bu.alloc(h:Bu w0 B bs ao cap data x2 x3 x4 w q ov out)(o:Obj):Bu w0 B bs ao cap data x2 x3 x4 (w.alloc o) q ov out:=
 h.step (h.sc.other ((Below.refl _ _).alloc (Nat.le_refl _) o)) (.of_below ((Below.refl _ _).alloc (Nat.le_refl _) o)) (Nat.le_refl _)
theorem Bu.sz(h:Bu w0 B bs ao cap data x2 x3 x4 w q ov out):w0.heap.size≤w.heap.size:=h.only.size
theorem Bu.app(h:Bu w0 B bs ao cap data x2 x3 x4 w q ov out){v':Value}{xs:List Nat}{n:Nat}(hn:n=out.length+xs.length)(hown:w'.ownsRow w0.heap.size 5 1 v' n ((out.map fun x:Nat=>.int .u8 (x:Int))++(xs.map fun x:Nat=>.int .u8 (x:Int))))(hg:w.grownBy w' ov.ownBlock)
  (hl:out.length+xs.length+q.length≤200000):Bu w0 B bs ao cap data x2 x3 x4 w' q v' (out++xs):=by
 subst hn
 have hoth:∀ k,k<w0.heap.size→w'.heap[k]?=w.heap[k]?:=fun k hk=>hg.block k (by have:=h.sz;omega) (oo_ h.own hk)
 have hBb:=h.sc.hb
 have hlt:=h.lt
 refine⟨⟨h.sc.hb,by rw[hoth _ h.lt];exact h.sc.blk,h.sc.dat.other (fun k hk=>hoth k (by omega)),h.sc.byt,h.sc.len,h.sc.lc,h.sc.le,h.sc.suf,h.sc.ad⟩,?_,?_,h.lt,by rw[List.length_append];omega⟩
 ·rw[List.length_append,List.map_append];exact hown
 ·exact⟨hg.os.trans h.only.os,hg.tape.trans h.only.tape,hg.output.trans h.only.output,Nat.le_trans h.sz hg.size,fun k hk hb=>(hoth k hk).trans (h.only.block k hk hb)⟩
theorem Bu.one_news(c:Nat)(W:World):∀ j u,([c].map fun x:Nat=>Value.int .u8 (x:Int))[j]?=some u→(W.alloc (.cells #[.int .u8 (c:Nat)] 5)).cell? ((⟨W.heap.size,0,none⟩:Addr).add j)=some u:=by
 intro j u hu
 rw[aa]
 match j,hu with
 |0,hu=>exact(ceb (bln W _)).trans hu
 |j+1,hu=>simp at hu
theorem sVo(c v:Nat)(w:World)(h:Fo.hexVal c=some v):Calls Tryz.prog 303 #[.int .u8 c] w fun e w'=>e=.returned (.int .u8 v)∧w'=w:=by
 have H:Hid (Fo.hexVal c=some v):=h
 clear h
 go_enter Tryz.func303,Tryz.ntmps303
 go_wp2_with (first | (go_at_call 275;refine(hDo _ _ _ H.o).mono ?_;rintro e w' ⟨rfl,rfl⟩) | (go_at_call 99;refine(smy _).mono ?_;rintro e w' ⟨rfl,rfl⟩))
 go_ret
 exact⟨rfl,rfl⟩
theorem sVn(c:Nat)(w:World)(h:Fo.hexVal c=none):Calls Tryz.prog 303 #[.int .u8 c] w fun e w'=>e=gU 4∧w'=w:=by
 have H:Hid (Fo.hexVal c=none):=h
 clear h
 go_enter Tryz.func303,Tryz.ntmps303
 go_wp2_with fail
 refine(heDn _ _ H.o).mono ?_
 rintro e w' ⟨v,rfl,rfl⟩
 go_wp2_with fail
 refine(sn _).mono ?_
 rintro e w' ⟨rfl,rfl⟩
 exact⟨rfl,rfl,rfl⟩
def iN(c:Nat):Bool:=pB c&&(decide (33≤c)&&decide (c≤126))
theorem iNo(c:Nat)(w:World):Calls Tryz.prog 239 #[.int .u8 c] w fun e w'=>e=.returned (.bool (iN c))∧w'=w:=by
 have HP:=hide (po_ c)
 have HW:=hide (wib (c:Int) 33 126)
 have e1:(decide ((33:Int)≤(c:Int))&&decide ((c:Int)≤126))=(decide (33≤c)&&decide (c≤126)):=by
  rw[Bool.eq_iff_iff];simp;omega
 rw[e1]at HW
 unfold iN
 cases hp:pB c
 ·rw[hp]at HP
  go_enter Tryz.func239,Tryz.ntmps239
  go_wp2_with (go_at_call 291;refine(HP.o _).mono ?_;rintro e w' ⟨rfl,rfl⟩)
  go_ret
  exact⟨rfl,rfl⟩
 ·rw[hp]at HP
  generalize (decide (33≤c)&&decide (c≤126))=v at *
  go_enter Tryz.func239,Tryz.ntmps239
  go_wp2_with (first | (go_at_call 291;refine(HP.o _).mono ?_;rintro e w' ⟨rfl,rfl⟩) | (go_at_call 216;refine(HW.o _).mono ?_;rintro e w' ⟨rfl,rfl⟩))
  go_ret
  exact⟨by simp,rfl⟩
theorem Fo.nameS_end{q:List Nat}(h:pH q=false):Fo.nameS 0 0 q=some ([],q):=by
 cases q with
 |nil=>rfl
 |cons b t =>
  have hb:pB b=false:=h
  simp[Fo.nameS,hb]
theorem Fo.nameS_bad{b:Nat}{t:List Nat}(hp:pB b=true)(h:iN b=false):Fo.nameS 0 0 (b::t)=none:=by
 have hc:b<33∨126<b:=by
  unfold iN at h
  rw[hp]at h
  simp at h;omega
 simp[Fo.nameS,hp,hc]
theorem Fo.nameS_on{b:Nat}{t:List Nat}(h:iN b=true)(hb:b≠35):Fo.nameS 0 0 (b::t)=(Fo.nameS 0 0 t).map fun x=>(b::x.1,x.2):=by
 unfold iN at h
 simp at h
 have hc:¬ (b<33∨126<b):=by omega
 simp[Fo.nameS,h.1,hc,hb]
theorem Fo.nameS_hash(t:List Nat):Fo.nameS 0 0 (35::t)=Fo.nameS 1 0 t:=by
 simp[Fo.nameS,show pB 35=true from rfl]
def addTo(out:List Nat)(o:Option (List Nat × List Nat)):Option (List Nat × List Nat):=o.map fun x=>(out++x.1,x.2)
theorem aTm(out:List Nat)(c:Nat)(o:Option (List Nat × List Nat)):addTo out (o.map fun x=>(c::x.1,x.2))=addTo (out++[c]) o:=by
 cases o with
 |none=>rfl
 |some x=>simp[addTo]
theorem SRes.none_{α:Type}{val:World→α→Value→Prop}{o:Option (α × List Nat)}{w w':World}(h:o=none)(k:Only bs w w'):SRes B bs ao cap data x2 x3 x4 val o w (gU 4) w':=by
 subst h;exact⟨rfl,k⟩
theorem SRes.some_{α:Type}{val:World→α→Value→Prop}{o:Option (α × List Nat)}{w w':World}{a:α}{q:List Nat}{v:Value}(h:o=some (a,q))(hv:val w' a v)(hs:Sc B bs ao cap data x2 x3 x4 w' q)(k:Only bs w w'):SRes B bs ao cap data x2 x3 x4 val o w (.returned v) w':=by
 subst h;exact⟨v,rfl,hv,hs,k⟩
theorem so1(h:Sc B bs ao cap data x2 x3 x4 w r) :
  Calls Tryz.prog 255 #[.pointer (some ⟨bs,0,none⟩)] w (SRes B bs ao cap data x2 x3 x4 strV (Fo.name r) w):=by
 obtain⟨i0,hi,hz0,hz1,hz2⟩:=info_parts Tryz.infoByte
 have H:=hide (Bu.start h)
 have hln:=h.len
 clear h
 obtain⟨R,hR⟩:∃ R,Fo.name r=R:=⟨_,rfl⟩
 rw[hR]
 have HR:Hid (addTo [] (Fo.nameS 0 0 r)=R):=by
  unfold Hid
  rw[←hR];unfold Fo.name addTo
  cases Fo.nameS 0 0 r<;>simp
 clear hR
 go_enter Tryz.func255,Tryz.ntmps255
 go_wp2
 go_loopw [3] (fun ov wr=>∃(q out:List Nat),Hid (Bu w B bs ao cap data x2 x3 x4 wr q ov out)∧Hid (addTo out (Fo.nameS 0 0 q)=R)) (fun _ wr=>data.length-posS bs wr)
 case atStart=>exact⟨r,[],H,HR⟩
 clear H HR
 case round =>
  obtain⟨q,out,HQ,HR⟩:=hrel
  have HA:=hide (sAo HQ.o.sc)
  have HPQ:=hide HQ.o.sc.posS
  cases hph:pH q
  ·rw[hph]at HA
   have hcv:=fun m=>so_ (HQ.o.drewN m).own
   have HE:Hid (R=some (out,q)):=by
    unfold Hid
    have:=HR.o
    rw[Fo.nameS_end hph]at this
    rw[←this];simp[addTo]
   clear HR hph HPQ
   obtain⟨S,hS⟩:∃ S,strN out=S:=⟨_,rfl⟩
   rw[hS]at hcv
   have HS:=hide hS
   clear hS
   go_wp2_with fail
   refine HA.o.mono ?_
   rintro e w1 ⟨rfl,m,rfl⟩
   go_wp2
   go_ret
   exact SRes.some_ HE.o (by rw[strV,HS.o];rfl) (HQ.o.drewN m).sc (HQ.o.drewN m).only
  ·rw[hph]at HA
   cases q with
   |nil=>cases hph
   |cons b t =>
    have hbt:b<256:=HQ.o.sc.bytes b (by simp)
    have HN:=hide (fun m=>sno (HQ.o.drewN m).sc)
    have HI:=hide (iNo b)
    go_wp2_with fail
    refine HA.o.mono ?_
    rintro e w1 ⟨rfl,m,rfl⟩
    go_wp2_with fail
    refine(HN.o m).mono ?_
    rintro e w2 ⟨rfl,h2,k2⟩
    have HB2:=hide ((HQ.o.drewN m).step h2 k2 (by simp))
    clear h2 k2 HN HA
    go_wp2_with fail
    refine(HI.o _).mono ?_
    rintro e w' ⟨rfl,rfl⟩
    cases hin:iN b
    ·have HE:Hid (R=none):=by
      unfold Hid
      rw[←HR.o,Fo.nameS_bad hph hin];rfl
     clear HI hin hph
     go_wp2_with fail
     refine(sn _).mono ?_
     rintro e w' ⟨rfl,rfl⟩
     exact⟨rfl,SRes.none_ HE.o HB2.o.only⟩
    ·go_wp2_with fail
     refine(smy _).mono ?_
     rintro e w' ⟨rfl,rfl⟩
     by_cases h35:b=35
     ·subst h35
      have HR1:Hid (addTo out (Fo.nameS 1 0 t)=R):=by
       unfold Hid
       rw[←HR.o,Fo.nameS_hash]
      clear HR hin hph HI
      cases t with
      |nil =>
       have HE:Hid (R=none):=by unfold Hid;rw[←HR1.o];rfl
       go_wp2_with fail
       refine(snn HB2.o.sc).mono ?_
       rintro e w3 ⟨rfl,m3,rfl⟩
       exact⟨rfl,SRes.none_ HE.o (HB2.o.only.drewN m3)⟩
      |cons x t =>
       go_wp2_with fail
       refine(sno HB2.o.sc).mono ?_
       rintro e w3 ⟨rfl,h3,k3⟩
       have HB3:=hide (HB2.o.step h3 k3 (by simp))
       clear h3 k3 HB2
       cases hx:Fo.hexVal x with
       |none =>
        have HE:Hid (R=none):=by unfold Hid;rw[←HR1.o];simp[Fo.nameS,hx,addTo]
        have HX:=hide (sVn x w3 hx)
        clear hx
        go_wp2_with fail
        refine HX.o.mono ?_
        rintro e w' ⟨rfl,rfl⟩
        exact⟨rfl,SRes.none_ HE.o HB3.o.only⟩
       |some a =>
        have HR2:Hid (addTo out (Fo.nameS 2 a t)=R):=by unfold Hid;rw[←HR1.o];simp[Fo.nameS,hx]
        have HX:=hide (sVo x a w3 hx)
        have ha16:=hVl hx
        clear hx HR1
        go_wp2_with fail
        refine HX.o.mono ?_
        rintro e w' ⟨rfl,rfl⟩
        cases t with
        |nil =>
         have HE:Hid (R=none):=by unfold Hid;rw[←HR2.o];rfl
         go_wp2_with fail
         refine(snn HB3.o.sc).mono ?_
         rintro e w4 ⟨rfl,m4,rfl⟩
         exact⟨rfl,SRes.none_ HE.o (HB3.o.only.drewN m4)⟩
        |cons y t =>
         go_wp2_with fail
         refine(sno HB3.o.sc).mono ?_
         rintro e w4 ⟨rfl,h4,k4⟩
         have HB4:=hide (HB3.o.step h4 k4 (by simp))
         clear h4 k4 HB3
         cases hy:Fo.hexVal y with
         |none =>
          have HE:Hid (R=none):=by unfold Hid;rw[←HR2.o];simp[Fo.nameS,hy,addTo]
          have HX:=hide (sVn y w4 hy)
          clear hy
          go_wp2_with fail
          refine HX.o.mono ?_
          rintro e w' ⟨rfl,rfl⟩
          exact⟨rfl,SRes.none_ HE.o HB4.o.only⟩
         |some c =>
          have HX:=hide (sVo y c w4 hy)
          have hc16:=hVl hy
          have HR3:Hid (addTo out (if 16*a+c=0 then none else(Fo.nameS 0 0 t).map fun x=>((16*a+c)::x.1,x.2))=R):=by unfold Hid;rw[←HR2.o];simp[Fo.nameS,hy]
          clear hy HR2
          go_wp2_with fail
          refine HX.o.mono ?_
          rintro e w' ⟨rfl,rfl⟩
          have hor:bits BinOp.or IntKind.u8 ((a:Int)*16) (c:Int)=((16*a+c:Nat):Int):=by
           have:=u8_or_nat (a*16) c (by omega) (by omega)
           rw[join16 a c ha16 hc16]at this
           simp only[Int.natCast_mul,Int.natCast_add]at this ⊢
           rw[show((16:Nat):Int)=16 from rfl]at this ⊢
           rw[this];omega
          obtain⟨z,hzz⟩:∃ z,16*a+c=z:=⟨_,rfl⟩
          rw[hzz]at HR3 hor
          clear hzz
          by_cases hz:z=0
          ·have HE:Hid (R=none):=by unfold Hid;rw[←HR3.o,if_pos hz];rfl
           have hz':((z:Int) != 0)=false:=by rw[hz];rfl
           go_wp2_with fail
           refine(sn _).mono ?_
           rintro e w' ⟨rfl,rfl⟩
           exact⟨rfl,SRes.none_ HE.o HB4.o.only⟩
          ·have HR4:Hid (addTo (out++[z]) (Fo.nameS 0 0 t)=R):=by
            unfold Hid
            rw[←HR3.o,if_neg hz,aTm]
           have hz':((z:Int) != 0)=true:=by simp;omega
           go_wp2_with fail
           refine(smy _).mono ?_
           rintro e w' ⟨rfl,rfl⟩
           have hbd:=HQ.o.few
           have hsz:=HB4.o.sz
           go_wp2_with (at_builtin;refine wpList_append_own _ rfl (.tmp 25) (.tmp 27) 23 rfl w.heap.size 5 i0 (.int .u8 0) 1 1 Tryz.underlying23 hi hz0 hz1 hz2 rfl (by decide) u3 out.length _ rfl (HB4.o.alloc _).own ⟨w'.heap.size,0,none⟩ 1 1 ([z].map fun x:Nat=>.int .u8 (x:Int)) rfl rfl (Bu.one_news (z) w') ?hone ?h63 ?hby ?hbs ?_)
           case hone=>intro u hu;simp at hu;subst hu;rfl
           case h63=>unfold maxLen;omega
           case hby=>omega
           case hbs=>simp;omega
           intro v6 w6 own6 hg6 _
           have H6:=hide ((HB4.o.alloc _).app (xs:=[z]) (by simp) own6 hg6 (by simp only[List.length_cons,List.length_nil]at hbd ⊢;omega))
           have HM6:=hide H6.o.sc.posS
           clear own6 hg6
           go_wp2
           go_roundw
           case rel=>exact⟨_,out++[z],H6,HR4⟩
           case measure =>
            rw[HPQ.o,HM6.o]
            have:=HQ.o.sc.le
            simp only[List.length_cons]at this ⊢;omega
     ·have h35':((b:Int)==35)=false:=by simp;omega
      have HR1:Hid (addTo (out++[b]) (Fo.nameS 0 0 t)=R):=by
       unfold Hid
       rw[←HR.o,Fo.nameS_on hin h35,aTm]
      clear HR hin hph HI h35
      have hbd:=HQ.o.few
      have hsz:=HB2.o.sz
      go_wp2_with (at_builtin;refine wpList_append_own _ rfl (.tmp 25) (.tmp 27) 23 rfl w.heap.size 5 i0 (.int .u8 0) 1 1 Tryz.underlying23 hi hz0 hz1 hz2 rfl (by decide) u3 out.length _ rfl (HB2.o.alloc _).own ⟨w'.heap.size,0,none⟩ 1 1 ([b].map fun x:Nat=>.int .u8 (x:Int)) rfl rfl (Bu.one_news b w') ?hone ?h63 ?hby ?hbs ?_)
      case hone=>intro u hu;simp at hu;subst hu;rfl
      case h63=>unfold maxLen;omega
      case hby=>omega
      case hbs=>simp;omega
      intro v6 w6 own6 hg6 _
      have H6:=hide ((HB2.o.alloc _).app (xs:=[b]) (by simp) own6 hg6 (by simp only[List.length_cons,List.length_nil]at hbd ⊢;omega))
      have HM6:=hide H6.o.sc.posS
      clear own6 hg6
      go_wp2
      go_roundw
      case rel=>exact⟨_,out++[b],H6,HR1⟩
      case measure =>
       rw[HPQ.o,HM6.o]
       have:=HQ.o.sc.le
       simp only[List.length_cons]at this ⊢;omega
end
section
structure Node(α:Type) where
 kind:Nat
 n:Int
 places:Nat
 text:List Nat
 items:List α
 keys:List (List Nat)
 filters:List Nat
def VT:Nat→Type
 |0=>Empty
 |k+1=>Node (VT k)
def leafN(α:Type)(kind:Nat)(n:Int)(places:Nat)(text:List Nat):Node α:=⟨kind,n,places,text,[],[],[]⟩
def nV{α:Type}(V:Node α)(iv kv fv:Value):Value:=.agg #[.int .i64 (V.kind:Int),.int .i64 V.n,.int .i64 (V.places:Int),.string (strN V.text),iv,kv,fv]
def cellsOf(v:Value):List Value:=v.cells.toList
def RowIn(P:Nat→Prop)(w:World)(e:TypeId)(size:Nat)(v:Value)(n:Nat)(xs:List Value):Prop:=w.ownsRow 0 e size v n xs∧∀ g,v.ownBlock=some g→P g∧g<w.heap.size
def VIn(P:Nat→Prop):(k:Nat)→World→Value→VT k→Prop
 |0,_,_,_=>False
 |k+1,w,v,V=>∃(iv kv fv:Value) (vs:List Value),v=nV (show Node (VT k)from V) iv kv fv∧vs.length=(show Node (VT k)from V).items.length ∧
   RowIn P w 67 7 iv vs.length (vs.flatMap cellsOf)∧(∀(i:Nat) (x:Value) (y:VT k),vs[i]?=some x→(show Node (VT k)from V).items[i]?=some y→VIn P k w x y) ∧
   RowIn P w 9 1 kv (show Node (VT k)from V).keys.length ((show Node (VT k)from V).keys.map fun s=>.string (strN s)) ∧
   RowIn P w 3 1 fv (show Node (VT k)from V).filters.length ((show Node (VT k)from V).filters.map fun f:Nat=>.int .i64 (f:Int))
variable{P Q:Nat→Prop}{w w':World}
theorem oRb{w:World}{b b' e size n:Nat}{v:Value}{xs:List Value}(h:w.ownsRow b e size v n xs)(hb:b'≤b):w.ownsRow b' e size v n xs:=by
 obtain⟨h1,h2⟩:=h
 refine⟨h1,?_⟩
 rcases h2 with h2 | ⟨g,c,cur,e1,e2,hc⟩
 ·exact Or.inl h2
 ·exact Or.inr ⟨g,c,cur,e1,by omega,hc⟩
theorem RowIn.nil(P:Nat→Prop)(w:World)(e size:Nat):RowIn P w e size (.slice none 0 0) 0 []:=⟨World.ownsRow_nil _ _ _ _,fun g h=>by cases h⟩
theorem RowIn.of{b e size n:Nat}{v:Value}{xs:List Value}(h:w.ownsRow b e size v n xs)(hP:∀ g,v.ownBlock=some g→P g):RowIn P w e size v n xs:=
 ⟨oRb h (Nat.zero_le _),fun g hg=>⟨hP g hg,(h.lt g hg).2⟩⟩
theorem RowIn.mono{e size n:Nat}{v:Value}{xs:List Value}(h:RowIn P w e size v n xs)(hPQ:∀ g,P g→g<w.heap.size→Q g):RowIn Q w e size v n xs:=
 ⟨h.1,fun g hg=>⟨hPQ g (h.2 g hg).1 (h.2 g hg).2,(h.2 g hg).2⟩⟩
theorem RowIn.keep{e size n:Nat}{v:Value}{xs:List Value}(h:RowIn P w e size v n xs)(hk:∀ g,P g→g<w.heap.size→w'.heap[g]?=w.heap[g]?):RowIn P w' e size v n xs:=by
 obtain⟨⟨h1,h2⟩,h3⟩:=h
 rcases h2 with h2 | ⟨g,c,cur,e1,e2,hh,hc⟩
 ·exact⟨⟨h1,Or.inl h2⟩,fun g hg=>by rw[h2.1]at hg;cases hg⟩
 ·have hb:v.ownBlock=some g:=by rw[e1];rfl
  have hg':w'.heap[g]?=some (.cells cur e (0,0)):=by rw[hk g (h3 g hb).1 (h3 g hb).2];exact hh
  exact⟨⟨h1,Or.inr ⟨g,c,cur,e1,e2,hg',hc⟩⟩,fun g2 hg2=>by
   rw[hb]at hg2;cases hg2
   exact⟨(h3 g hb).1,lt_of_block hg'⟩⟩
theorem VIn.keep:∀(k:Nat) {v:Value} {V:VT k},VIn P k w v V→(∀ g,P g→g<w.heap.size→w'.heap[g]?=w.heap[g]?)→VIn P k w' v V
 |0,_,_,h,_=>h
 |k+1,v,V,h,hk=>by
  obtain⟨iv,kv,fv,vs,h1,h2,h3,h4,h5,h6⟩:=h
  exact⟨iv,kv,fv,vs,h1,h2,h3.keep hk,fun i x y hx hy=>VIn.keep k (h4 i x y hx hy) hk,h5.keep hk,h6.keep hk⟩
theorem VIn.mono:∀(k:Nat) {v:Value} {V:VT k},VIn P k w v V→(∀ g,P g→g<w.heap.size→Q g)→VIn Q k w v V
 |0,_,_,h,_=>h
 |k+1,v,V,h,hk=>by
  obtain⟨iv,kv,fv,vs,h1,h2,h3,h4,h5,h6⟩:=h
  exact⟨iv,kv,fv,vs,h1,h2,h3.mono hk,fun i x y hx hy=>VIn.mono k (h4 i x y hx hy) hk,h5.mono hk,h6.mono hk⟩
theorem VIn.leaf(k:Nat)(kind:Nat)(n:Int)(places:Nat)(text:List Nat):VIn P (k+1) w (.agg #[.int .i64 (kind:Int),.int .i64 n,.int .i64 (places:Int),.string (strN text),.slice none 0 0,.slice none 0 0,.slice none 0 0]) (leafN (VT k) kind n places text):=
 ⟨.slice none 0 0,.slice none 0 0,.slice none 0 0,[],rfl,rfl,RowIn.nil _ _ _ _,fun i x y hx _=>by simp at hx,RowIn.nil _ _ _ _,RowIn.nil _ _ _ _⟩
theorem VIn.cells{k:Nat}{v:Value}{V:VT k}(h:VIn P k w v V):(cellsOf v).length=7∧∀ u∈cellsOf v,u.oneCell'=true:=by
 cases k with
 |zero=>cases h
 |succ k =>
  obtain⟨iv,kv,fv,vs,rfl,_,hi,_,hk,hf⟩:=h
  obtain⟨a1,c1,rfl⟩:=ows hi.1
  obtain⟨a2,c2,rfl⟩:=ows hk.1
  obtain⟨a3,c3,rfl⟩:=ows hf.1
  refine⟨rfl,fun u hu=>?_⟩
  simp[cellsOf,nV,Value.cells]at hu
  rcases hu with rfl | rfl | rfl | rfl | rfl | rfl | rfl<;>rfl
end
theorem iV:(Tryz.prog.info? 67).map (fun i=>(i.zero,i.size,i.bytes))=some (some (.agg #[.int .i64 0,.int .i64 0,.int .i64 0,.string { data:=#[] },.slice none 0 0,.slice none 0 0,.slice none 0 0]),7,112):=by kernel_rfl
theorem iS:(Tryz.prog.info? 9).map (fun i=>(i.zero,i.size,i.bytes))=some (some (.string { data:=#[] }),1,16):=by kernel_rfl
def zero7:Array Value:=#[.int .i64 0,.int .i64 0,.int .i64 0,.string { data:=#[] },.slice none 0 0,.slice none 0 0,.slice none 0 0]
theorem oa_{w:World}{b b' e e' size size' n n':Nat}{v v':Value}{xs xs':List Value}(h:w.ownsRow b e size v n xs)(h':w.ownsRow b' e' size' v' n' xs')(hne:e≠e')(g:Nat)(hg:v.ownBlock=some g)(hg':v'.ownBlock=some g):False:=by
 obtain⟨_,c,f,h1⟩:=owr h g hg
 obtain⟨_,c',f',h2⟩:=owr h' g hg'
 rw[h1]at h2
 simp at h2
 exact hne h2.2.1
theorem set7{w:World}{b:Nat}(h:w.heap[b]?=some (.cells zero7 67 (0,0)))(a0 a1 a2 a3 a4 a5 a6:Value) :
  (((((((w.setCell ⟨b,0,none⟩ a0).setCell ⟨b,1,none⟩ a1).setCell ⟨b,2,none⟩ a2).setCell ⟨b,3,none⟩ a3).setCell ⟨b,4,none⟩ a4).setCell ⟨b,5,none⟩ a5).setCell ⟨b,6,none⟩ a6).heap[b]?=some (.cells #[a0,a1,a2,a3,a4,a5,a6] 67 (0,0)):=by
 rw[bsC _ (bsC _ (bsC _ (bsC _ (bsC _ (bsC _ (bsC _ h))))))]
 rfl
theorem only7(w:World)(b:Nat)(a0 a1 a2 a3 a4 a5 a6:Value) :
  Only b w (((((((w.setCell ⟨b,0,none⟩ a0).setCell ⟨b,1,none⟩ a1).setCell ⟨b,2,none⟩ a2).setCell ⟨b,3,none⟩ a3).setCell ⟨b,4,none⟩ a4).setCell ⟨b,5,none⟩ a5).setCell ⟨b,6,none⟩ a6):=
 ((((((((Only.refl b w).setCell 0 a0).setCell 1 a1).setCell 2 a2).setCell 3 a3).setCell 4 a4).setCell 5 a5).setCell 6 a6)
theorem VIn.agg{P:Nat→Prop}{k:Nat}{w:World}{v:Value}{V:VT k}(h:VIn P k w v V):∃ a0 a1 a2 a3 a4 a5 a6,v=.agg #[a0,a1,a2,a3,a4,a5,a6]:=by
 cases k with
 |zero=>cases h
 |succ k =>
  obtain⟨iv,kv,fv,vs,rfl,_⟩:=h
  exact⟨_,_,_,_,_,_,_,rfl⟩
theorem VIn.form{P:Nat→Prop}{k:Nat}{w:World}{v:Value}{V:VT k}(h:VIn P k w v V):∃(kd nn pp:Int) (TT:ByteArray) (ia:Option Addr) (il ic:Nat) (ka:Option Addr) (kl kc:Nat) (fa:Option Addr) (fl fc:Nat),v=.agg #[.int .i64 kd,.int .i64 nn,.int .i64 pp,.string TT,.slice ia il ic,.slice ka kl kc,.slice fa fl fc]:=by
 cases k with
 |zero=>cases h
 |succ k =>
  obtain⟨iv,kv,fv,vs,rfl,_,hi,_,hk,hf⟩:=h
  obtain⟨a1,c1,rfl⟩:=ows hi.1
  obtain⟨a2,c2,rfl⟩:=ows hk.1
  obtain⟨a3,c3,rfl⟩:=ows hf.1
  exact⟨_,_,_,_,_,_,_,_,_,_,_,_,_,rfl⟩
theorem rop{w:World}{b e size n:Nat}{v:Value}{vs:List Value}(h:w.ownsRow b e size v n (vs.flatMap cellsOf))(hs:∀ x∈vs,(cellsOf x).length=size)(h0:0<size){i:Nat}{x:Value}(hx:vs[i]?=some x) :
  ∃ g c,v=.slice (some ⟨g,0,none⟩) n c∧n≤c∧c≤maxLen∧v.ownBlock=some g∧∀ j u,(cellsOf x)[j]?=some u→w.cell? ⟨g,i*size+j,none⟩=some u:=by
 have hi:=(List.getElem?_eq_some_iff.1 hx).1
 have key:∀(vs:List Value) (i:Nat),(∀ x∈vs,(cellsOf x).length=size)→∀ x,vs[i]?=some x→∀ j u,(cellsOf x)[j]?=some u→(vs.flatMap cellsOf)[i*size+j]?=some u:=by
  intro vs
  induction vs with
  |nil=>intro i _ x hx;simp at hx
  |cons y vs ih =>
   intro i hs x hx j u hu
   rw[List.flatMap_cons]
   have hy:=hs y (by simp)
   have hj:j<(cellsOf x).length:=(List.getElem?_eq_some_iff.1 hu).1
   cases i with
   |zero =>
    simp at hx
    subst hx
    rw[Nat.zero_mul,Nat.zero_add,List.getElem?_append_left hj]
    exact hu
   |succ i =>
    rw[List.getElem?_append_right (by rw[hy,Nat.add_mul];omega),hy]
    rw[show(i+1)*size+j-size=i*size+j by rw[Nat.add_mul];omega]
    exact ih i (fun z hz=>hs z (by simp[hz])) x (by simpa using hx) j u hu
 have hk:=key vs i hs x hx
 rcases h.2 with⟨rfl,rfl⟩ | ⟨g,c,cur,rfl,_,hh,hc1,hc2,_,ht⟩
 ·have h1:vs.flatMap cellsOf=[]:=List.eq_nil_of_length_eq_zero (by rw[h.1];omega)
  have hx2:=hs x (List.mem_of_getElem? hx)
  have:=hk 0 _ (List.getElem?_eq_getElem (by omega))
  rw[h1]at this
  simp at this
 ·refine⟨g,c,rfl,hc1,hc2,rfl,fun j u hu=>?_⟩
  have:=hk j u hu
  rw[←ht]at this
  rw[ceb hh,←Array.getElem?_toList]
  have hlt:=(List.getElem?_eq_some_iff.1 this).1
  rw[List.getElem?_take_of_lt (by rw[List.length_take]at hlt;omega)]at this
  exact this
theorem ro{w:World}{b e n:Nat}{v:Value}{xs:List Value}(h:w.ownsRow b e 1 v n xs){i:Nat}{x:Value}(hx:xs[i]?=some x) :
  ∃ g c,v=.slice (some ⟨g,0,none⟩) n c∧w.cell? ⟨g,i,none⟩=some x:=by
 have hi:=(List.getElem?_eq_some_iff.1 hx).1
 rcases h.2 with⟨rfl,rfl⟩ | ⟨g,c,cur,rfl,_,hh,hc1,hc2,_,ht⟩
 ·have:=h.1;omega
 ·refine⟨g,c,rfl,?_⟩
  rw[ceb hh,←Array.getElem?_toList]
  rw[←ht]at hx
  have hlt:=(List.getElem?_eq_some_iff.1 hx).1
  rw[List.getElem?_take_of_lt (by rw[List.length_take]at hlt;omega)]at hx
  exact hx
theorem VIn.parts{P:Nat→Prop}{k:Nat}{w:World}{v:Value}{V:Node (VT k)}(h:VIn P (k+1) w v V):∃(iv kv fv:Value) (vs:List Value),v=nV V iv kv fv∧vs.length=V.items.length ∧
   RowIn P w 67 7 iv vs.length (vs.flatMap cellsOf)∧(∀(i:Nat) (x:Value) (y:VT k),vs[i]?=some x→V.items[i]?=some y→VIn P k w x y) ∧
   RowIn P w 9 1 kv V.keys.length (V.keys.map fun s=>.string (strN s)) ∧
   RowIn P w 3 1 fv V.filters.length (V.filters.map fun f:Nat=>.int .i64 (f:Int)):=h
def Vals(P:Nat→Prop)(k:Nat)(b:Nat)(Ys:List (VT k))(w:World)(v:Value):Prop:=
 ∃ xs:List Value,w.ownsRow b 67 7 v xs.length (xs.flatMap cellsOf)∧xs.length=Ys.length∧∀(i:Nat) (x:Value) (y:VT k),xs[i]?=some x→Ys[i]?=some y→VIn P k w x y
def kO:{k:Nat}→VT k→Nat
 |0,_=>0
 |_+1,V=>Node.kind V
def nOf:{k:Nat}→VT k→Int
 |0,_=>0
 |_+1,V=>Node.n V
def tO:{k:Nat}→VT k→List Nat
 |0,_=>[]
 |_+1,V=>Node.text V
theorem VIn.form2{P:Nat→Prop}{k:Nat}{w:World}{v:Value}{V:VT k}(h:VIn P k w v V):∃(pp:Nat) (ia:Option Addr) (il ic:Nat) (ka:Option Addr) (kl kc:Nat) (fa:Option Addr) (fl fc:Nat),v=.agg #[.int .i64 (kO V:Int),.int .i64 (nOf V),.int .i64 (pp:Int),.string (strN (tO V)),.slice ia il ic,.slice ka kl kc,.slice fa fl fc]:=by
 cases k with
 |zero=>cases h
 |succ k =>
  obtain⟨iv,kv,fv,vs,rfl,_,hi,_,hk,hf⟩:=h
  obtain⟨a1,c1,rfl⟩:=ows hi.1
  obtain⟨a2,c2,rfl⟩:=ows hk.1
  obtain⟨a3,c3,rfl⟩:=ows hf.1
  exact⟨_,_,_,_,_,_,_,_,_,_,rfl⟩
theorem Vals.len{P:Nat→Prop}{k b:Nat}{Ys:List (VT k)}{w:World}{v:Value}(h:Vals P k b Ys w v):∃ a c,v=.slice a Ys.length c:=by
 obtain⟨xs,h1,h2,_⟩:=h
 obtain⟨a,c,e⟩:=ows h1
 exact⟨a,c,by rw[e,h2]⟩
theorem Vals.mono{P Q:Nat→Prop}{k b:Nat}{Ys:List (VT k)}{w:World}{v:Value}(h:Vals P k b Ys w v)(hk:∀ g,P g→g<w.heap.size→Q g):Vals Q k b Ys w v:=by
 obtain⟨xs,h1,h2,h3⟩:=h
 exact⟨xs,h1,h2,fun i x y hx hy=>VIn.mono k (h3 i x y hx hy) hk⟩
theorem Vals.at{P:Nat→Prop}{k b:Nat}{Ys:List (VT k)}{w:World}{v:Value}(h:Vals P k b Ys w v){i:Nat}{y:VT k}(hy:Ys[i]?=some y) :
  ∃ g c x,v=.slice (some ⟨g,0,none⟩) Ys.length c∧b≤g∧Ys.length≤c∧VIn P k w x y∧∀ j u,(cellsOf x)[j]?=some u→w.cell? ⟨g,i*7+j,none⟩=some u:=by
 obtain⟨xs,h1,h2,h3⟩:=h
 have hi:=(List.getElem?_eq_some_iff.1 hy).1
 obtain⟨x,hx⟩:∃ x,xs[i]?=some x:=⟨_,List.getElem?_eq_getElem (by omega)⟩
 obtain⟨g,c,e,hc,_,hb,hcell⟩:=rop h1 (fun x hx=>by
  obtain⟨j,hj,hjx⟩:=List.getElem_of_mem hx
  obtain⟨y,hy⟩:∃ y,Ys[j]?=some y:=⟨_,List.getElem?_eq_getElem (by omega)⟩
  exact(h3 j x y (by rw[List.getElem?_eq_getElem hj,hjx]) hy).cells.1) (by decide) hx
 exact⟨g,c,x,by rw[e,h2],(h1.lt g hb).1,by omega,h3 i x y hx hy,hcell⟩
theorem Vals.base{P:Nat→Prop}{k b:Nat}{Ys:List (VT k)}{w:World}{v:Value}(h:Vals P k b Ys w v):Vals P k 0 Ys w v:=by
 obtain⟨xs,h1,h2,h3⟩:=h
 exact⟨xs,oRb h1 (Nat.zero_le _),h2,h3⟩
theorem obW{B e k n:Nat}{v:Value}{xs:List Value}{w w':World}(h:w.ownsRow B e k v n xs)(b:Below w.heap.size w w'):w'.ownsRow B e k v n xs:=by
 obtain⟨h1,h2⟩:=h
 refine⟨h1,?_⟩
 rcases h2 with h2 | ⟨g,c,cur,e1,e2,hh,hc⟩
 ·exact Or.inl h2
 ·exact Or.inr ⟨g,c,cur,e1,e2,by rw[b.block g (lt_of_block hh)];exact hh,hc⟩
theorem Vals.keep{P:Nat→Prop}{k b:Nat}{Ys:List (VT k)}{w w':World}{v:Value}(h:Vals P k b Ys w v)(hb:Below w.heap.size w w'):Vals P k b Ys w' v:=by
 obtain⟨xs,h1,h2,h3⟩:=h
 exact⟨xs,obW h1 hb,h2,fun i x y hx hy=>VIn.keep k (h3 i x y hx hy) (fun g _ hg=>hb.block g hg)⟩
section
namespace Fo
def hexDigs:List Nat→Option (List Nat × List Nat)
 | []=>none
 |b::r=>if whB b then hexDigs r else if b=62 then some ([],r)else match hexVal b with
  |none=>none
  |some v=>(hexDigs r).map fun x=>(v::x.1,x.2)
def pairs:List Nat→List Nat
 | []=>[]
 | [a]=>[16*a]
 |a::b::l=>(16*a+b)::pairs l
def hexText(r:List Nat):Option (List Nat × List Nat):=(hexDigs r).map fun x=>(pairs x.1,x.2)
theorem hexDigs_white:∀ r:List Nat,hexDigs r=hexDigs (r.dropWhile whB)
 | []=>rfl
 |b::r=>by
  rw[List.dropWhile_cons]
  cases h:whB b
  ·rfl
  ·simp only[hexDigs,h,if_true]
   exact hexDigs_white r
end Fo
variable{B bs cap:Nat}{ao:Option Addr}{data:List Nat}{x2 x3 x4:Value}{w w':World}{r q:List Nat}
variable{w0:World}{ov:Value}{out:List Nat}
def InkTo(B bs:Nat)(ao:Option Addr)(cap:Nat)(data:List Nat)(x2 x3 x4:Value)(w:World)(r:List Nat)(e:Ending)(w':World):Prop:=
 match r.dropWhile whB with
 | []=>e=gU 4∧Only bs w w'
 |b::t=>e=.returned (.int .u8 (b:Nat))∧Sc B bs ao cap data x2 x3 x4 w' t∧Only bs w w'
theorem sIo(h:Sc B bs ao cap data x2 x3 x4 w r) :
  Calls Tryz.prog 302 #[.pointer (some ⟨bs,0,none⟩)] w (InkTo B bs ao cap data x2 x3 x4 w r):=by
 have c0:=h.c0
 have c1:=h.c1
 have f1:=h.fz 1
 have HW:=hide h.white
 have H1:=hide ((h.go (List.dropWhile_suffix whB)).drew)
 have hle:=h.le
 have hln:=h.len
 have HO1:Hid (Only bs w (w.setCell ⟨bs,1,none⟩ (.int .i64 (data.length-(r.dropWhile whB).length:Nat))).drew):=((Only.refl bs w).setCell _ _).drewN 1
 clear h
 unfold InkTo
 generalize r.dropWhile whB=q1 at *
 have hq1:data.length-q1.length≤200000:=by omega
 generalize data.length-r.length=p at *
 generalize data.length-q1.length=p1 at *
 cases q1 with
 |nil =>
  have HN:=hide (snn H1.o)
  go_enter Tryz.func302,Tryz.ntmps302
  go_wp2_with fail
  go_region_with (go_at_call 188;refine HW.o.mono ?_;rintro e w' ⟨rfl,rfl⟩)
  all_goals (
   go_wp2_with fail
   refine HN.o.mono ?_
   rintro e w2 ⟨rfl,m,rfl⟩
   exact⟨rfl,rfl,HO1.o.drewN m⟩)
 |cons b t =>
  have HN:=hide (sno H1.o)
  go_enter Tryz.func302,Tryz.ntmps302
  go_wp2_with fail
  go_region_with (go_at_call 188;refine HW.o.mono ?_;rintro e w' ⟨rfl,rfl⟩)
  all_goals (
   go_wp2_with fail
   refine HN.o.mono ?_
   rintro e w2 ⟨rfl,h2,k2⟩
   go_wp2
   go_ret
   exact⟨rfl,h2,HO1.o.trans k2⟩)
theorem Fo.pairs_pad(l:List Nat)(h:l.length%2=1):Fo.pairs (l++[0])=Fo.pairs l:=by
 have key:∀(n:Nat) (l:List Nat),l.length=2*n+1→Fo.pairs (l++[0])=Fo.pairs l:=by
  intro n
  induction n with
  |zero =>
   intro l hl
   match l,hl with
   | [a],_=>rfl
  |succ n ih =>
   intro l hl
   match l,hl with
   |a::b::l,hl =>
    simp only[List.length_cons]at hl
    show Fo.pairs (a::b::(l++[0]))=Fo.pairs (a::b::l)
    simp only[Fo.pairs]
    rw[ih l (by omega)]
 exact key (l.length/2) l (by omega)
end
end Go.Proofs.YtgkljcmjnphpeaaGreatDoor
