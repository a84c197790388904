import Derived.Test.YtgkljcmjnphpeaaGreatDoorK04
set_option linter.unusedVariables false
set_option linter.unusedSimpArgs false
set_option maxHeartbeats 4000000
set_option maxRecDepth 100000
namespace Go.Proofs.YtgkljcmjnphpeaaGreatDoor
open Go.RowKit
section
variable{B bs cap:Nat}{ao:Option Addr}{data:List Nat}{x2 x3 x4:Value}{w w':World}{r q:List Nat}
variable{w0:World}{ov:Value}{out:List Nat}
def Digs(l:List Nat):Prop:=∀ x∈l,x<16
theorem Digs.snoc{l:List Nat}{v:Nat}(h:Digs l)(hv:v<16):Digs (l++[v]):=by
 intro x hx
 rcases List.mem_append.1 hx with hx | hx
 ·exact h x hx
 ·rw[List.mem_singleton]at hx;omega
theorem Digs.nth{l:List Nat}(h:Digs l)(i:Nat)(hi:i<l.length):nth l i<16:=by
 have:Go.Proofs.YtgkljcmjnphpeaaGreatDoor.nth l i=l[i]:=by simp[Go.Proofs.YtgkljcmjnphpeaaGreatDoor.nth,hi]
 rw[this];exact h _ (List.getElem_mem hi)
structure Jn(w0:World)(bs:Nat)(w1:World)(D:List Nat)(dv:Value)(wr:World)(k:Nat)(ov:Value):Prop where
 own:wr.ownsRow w1.heap.size 5 1 ov k (((Fo.pairs D).take k).map fun x:Nat=>.int .u8 (x:Int))
 keep:Below w1.heap.size w1 wr
theorem pl_:∀(n:Nat) (D:List Nat),D.length=2*n→(Fo.pairs D).length=n
 |0,D,h=>by
  obtain rfl:D=[]:=List.eq_nil_of_length_eq_zero (by omega)
  rfl
 |n+1,D,h=>by
  match D,h with
  |a::b::l,h =>
   simp only[List.length_cons]at h
   simp only[Fo.pairs,List.length_cons]
   rw[pl_ n l (by omega)]
theorem pan:∀(k:Nat) (D:List Nat),2*k+1<D.length→nth (Fo.pairs D) k=16*nth D (2*k)+nth D (2*k+1)
 |0,D,h=>by
  match D,h with
  |a::b::l,h=>rfl
 |k+1,D,h=>by
  match D,h with
  |a::b::l,h =>
   simp only[List.length_cons]at h
   have:=pan k l (by omega)
   show nth ((16*a+b)::Fo.pairs l) (k+1)=_
   rw[show nth ((16*a+b)::Fo.pairs l) (k+1)=nth (Fo.pairs l) k from rfl,this]
   rfl
theorem tn_{l:List Nat}{k:Nat}(h:k<l.length):l.take (k+1)=l.take k++[nth l k]:=by
 rw[List.take_add_one,show nth l k=l[k]by simp[nth,h]]
 simp[h]
theorem sTo(h:Sc B bs ao cap data x2 x3 x4 w r) :
  Calls Tryz.prog 253 #[.pointer (some ⟨bs,0,none⟩)] w (SRes B bs ao cap data x2 x3 x4 strV (Fo.hexText r) w):=by
 obtain⟨i0,hi,hz0,hz1,hz2⟩:=info_parts Tryz.infoByte
 have H:=hide (Bu.start h)
 have HN:=hide (sIo h)
 have hln:=h.len
 clear h
 obtain⟨R,hR⟩:∃ R,Fo.hexText r=R:=⟨_,rfl⟩
 rw[hR]
 obtain⟨RD,hRD⟩:∃ RD,Fo.hexDigs r=RD:=⟨_,rfl⟩
 have HR:Hid (R=RD.map fun x=>(Fo.pairs x.1,x.2)):=by unfold Hid;rw[←hR,←hRD];rfl
 have HRD:Hid (Fo.hexDigs (r.dropWhile whB)=RD):=by unfold Hid;rw[←hRD];exact(Fo.hexDigs_white r).symm
 clear hR hRD
 unfold InkTo at HN
 cases hq:r.dropWhile whB with
 |nil =>
  rw[hq]at HN HRD
  have HE:Hid (R=none):=by unfold Hid;rw[HR.o,←HRD.o];rfl
  simp only[]at HN
  clear hq
  go_enter Tryz.func253,Tryz.ntmps253
  go_wp2_with fail
  refine HN.o.mono ?_
  rintro e w1 ⟨rfl,k1⟩
  exact⟨rfl,SRes.none_ HE.o k1⟩
 |cons b0 t0 =>
  have hw0:=dWh r b0 t0 hq
  have hb0:b0<256:=H.o.sc.bytes b0 ((List.dropWhile_suffix whB).subset (by rw[hq];simp))
  have hl0:=Fo.dropWhile_len (p:=whB) r
  rw[hq]at HN HRD hl0
  simp only[]at HN
  clear hq
  go_enter Tryz.func253,Tryz.ntmps253
  go_wp2_with fail
  refine HN.o.mono ?_
  rintro e w1 ⟨rfl,h1,k1⟩
  have HB1:=hide (H.o.step h1 k1 (by simp only[List.length_cons]at hl0;omega))
  have hfew:0+(b0::t0).length≤200000:=by have:=H.o.few;simp only[List.length_nil]at this;omega
  clear h1 k1 HN H
  go_wp2
  go_loopw [3,4] (fun u v wr=>∃(b:Nat) (q out:List Nat),v=.int .u8 (b:Nat)∧whB b=false∧b<256∧out.length+(b::q).length≤200000∧Hid (Bu w B bs ao cap data x2 x3 x4 wr q u out)∧Hid (Digs out)∧Hid (addTo out (Fo.hexDigs (b::q))=RD)) (fun _ _ wr=>data.length-posS bs wr)
  case atStart =>
   refine⟨b0,t0,[],rfl,hw0,hb0,by simpa using hfew,HB1,(fun x hx=>(by cases hx)),?_⟩
   unfold Hid
   rw[←HRD.o]
   cases Fo.hexDigs (b0::t0)<;>simp[addTo]
  clear HB1 HRD hw0 hl0 hfew
  case round =>
   obtain⟨b,q,out,rfl,hwb,hb256,hfew,HBU,HDG,HRQ⟩:=hrel
   have HPQ:=hide HBU.o.sc.posS
   by_cases h62:b=62
   ·have HRE:Hid (RD=some (out,q)):=by
     unfold Hid
     rw[←HRQ.o,h62]
     simp[Fo.hexDigs,show whB 62=false from rfl,addTo]
    clear HRQ hwb HPQ
    have h62':((b:Int) != 62)=false:=by rw[h62];rfl
    clear h62
    by_cases hpar:out.length%2=1
    ·have hrem:((out.length:Int)).tmod 2=1:=by rw[Int.tmod_eq_emod_of_nonneg (by omega)];omega
     obtain⟨ua,uc,hu3⟩:=ows HBU.o.own
     subst hu3
     have hsz:=HBU.o.sz
     simp only[List.length_cons]at hfew
     go_wp2_with (at_builtin;refine wpList_append_own _ rfl (.tmp 22) (.tmp 23) 23 rfl w.heap.size 5 i0 (.int .u8 0) 1 1 Tryz.underlying23 hi hz0 hz1 hz2 rfl (by decide) (.slice ua out.length uc) out.length _ rfl (HBU.o.alloc _).own ⟨wr.heap.size,0,none⟩ 1 1 ([0].map fun x:Nat=>.int .u8 (x:Int)) rfl rfl (Bu.one_news 0 wr) ?hone ?h63 ?hby ?hbs ?_)
     case hone=>intro u hu;simp at hu;subst hu;rfl
     case h63=>unfold maxLen;omega
     case hby=>omega
     case hbs=>simp;omega
     intro v6 w6 own6 hg6 _
     have HBU6:=hide ((HBU.o.alloc _).app (xs:=[0]) (by simp) own6 hg6 (by simp only[List.length_cons,List.length_nil];omega))
     clear own6 hg6
     have HPR:Hid (R=some (Fo.pairs (out++[0]),q)):=by unfold Hid;rw[HR.o,HRE.o,Fo.pairs_pad out hpar];rfl
     have HEV:Hid ((out++[0]).length%2=0):=by unfold Hid;rw[List.length_append];simp;omega
     have HDG6:Hid (Digs (out++[0])):=HDG.o.snoc (by omega)
     have hln6:(out++[0]).length≤200001:=by rw[List.length_append];simp;omega
     clear HBU HDG HRE hrem hpar hfew
     have HBU:=HBU6
     have HDG:=HDG6
     clear HBU6 HDG6
     have HJ0:Hid (Jn w bs w6 (out++[0]) v6 w6 0 (.slice none 0 0)):=⟨World.ownsRow_nil _ _ _ _,Below.refl _ _⟩
     have HDat:Hid (∀ i,i<(out++[0]).length→∃ g c,v6=.slice (some ⟨g,0,none⟩) (out++[0]).length c∧g<w6.heap.size∧w6.cell? ⟨g,i,none⟩=some (.int .u8 (nth (out++[0]) i:Nat))):=fun i hi=>by
      obtain⟨g,c,hv,hg⟩:=owf HBU.o.own (by omega)
      refine⟨g,c,hv,?_,?_⟩
      ·have:=HBU.o.own
       rw[hv]at this
       exact(this.lt g rfl).2
      ·have:=HBU.o.own
       rw[hv]at this
       have hx:=this.cells (g:=g) rfl i (.int .u8 (nth (out++[0]) i:Nat)) (by rw[List.getElem?_map,List.getElem?_eq_getElem hi];simp[nth,List.getElem?_eq_getElem hi])
       rw[aa]at hx;exact hx
     have hDn:(out++[0]).length≤200001:=hln6
     obtain⟨da,dc,hdv⟩:=ows HBU.o.own
     generalize hDD:(out++[0])=D at *
     have HDD:=hide hDD
     clear hDD
     subst hdv
     have hev:D.length%2=0:=HEV.o
     have HPL:=hide (pl_ (D.length/2) D (by omega))
     go_wp2
     go_loopw [5,6] (fun ov i wr=>∃ k p:Nat,2*k≤D.length∧Hid (p=2*k)∧i=.int .i64 (p:Nat)∧Hid (Jn w bs w6 D (.slice da D.length dc) wr k ov)) (fun _ i _=>D.length-(intOf i).toNat)
     case atStart=>exact⟨0,0,by omega,hide rfl,rfl,HJ0⟩
     clear HJ0
     case round =>
      obtain⟨k,p,hk,HP,rfl,HJ⟩:=hrel
      have hp:=HP.o
      by_cases hlt:p<D.length
      ·have hltI:(p:Int)<(D.length:Int):=by omega
       obtain⟨g,c,hv,hg,hc0⟩:=HDat.o p hlt
       obtain⟨g',c',hv',_,hc1⟩:=HDat.o (p+1) (by omega)
       cases hv
       cases hv'
       have d0:=(HJ.o.keep.cell (p:=⟨g,p,none⟩) hg).trans hc0
       have d1:=(HJ.o.keep.cell (p:=⟨g,p+1,none⟩) hg).trans hc1
       have ha:=HDG.o.nth p hlt
       have hb:=HDG.o.nth (p+1) (by omega)
       have HNX:Hid (nth (Fo.pairs D) k=16*nth D p+nth D (p+1)):=by unfold Hid;rw[hp];exact pan k D (by omega)
       clear hc0 hc1
       generalize nth D p=a at *
       generalize nth D (p+1)=b at *
       have hor:bits BinOp.or IntKind.u8 ((a:Int)*16) (b:Int)=((16*a+b:Nat):Int):=by
        have:=u8_or_nat (a*16) b (by omega) (by omega)
        rw[join16 a b ha hb]at this
        simp only[Int.natCast_mul,Int.natCast_add]at this ⊢
        rw[show((16:Nat):Int)=16 from rfl]at this ⊢
        rw[this];omega
       obtain⟨z,hzz⟩:∃ z,16*a+b=z:=⟨_,rfl⟩
       rw[hzz]at hor HNX
       clear hzz
       have hk2:2*k+1<D.length:=by omega
       have hks:=HJ.o.keep.size
       have hI1:(p:Int)+1<(D.length:Int):=by omega
       have hwa:IntKind.u8.wrap ((a:Int)*16)=(a:Int)*16:=by rw[IntKind.wrap_u8];omega
       have hwp:IntKind.i64.wrap ((p:Int)+1)=(p:Int)+1:=by rw[IntKind.wrap_i64];omega
       have hwt:((p:Int)+1).toNat=p+1:=by omega
       have hw0:(0:Int)≤(p:Int)+1:=by omega
       have hkI:(p:Int)≤200001:=by omega
       have hkN:k≤200001:=by omega
       clear hp
       go_wp2_with fail
       go_region_law (refine sao rfl (.tmp 31) (.tmp 43) 23 rfl w6.heap.size 5 i0 (.int .u8 0) 1 1 Tryz.underlying23 hi hz0 hz1 hz2 rfl (by decide) u5 k _ rfl (World.ownsRow.drew (HJ.o.own.alloc _)) ⟨wr.heap.size,0,none⟩ 1 1 ([z].map fun x:Nat=>.int .u8 (x:Int)) rfl rfl ?hnews ?hone ?h63 ?hby ?hb ?_;(case hnews=>exact Bu.one_news z wr);(case hone=>intro u hu;simp at hu;subst hu;rfl);(case h63=>unfold maxLen;omega);(case hby=>omega);(case hb=>simp;omega);intro v' w8 hown8 hg8 _)
       all_goals (
        have H8:Hid (Jn w bs w6 D (.slice (some ⟨g,0,none⟩) D.length dc) w8 (k+1) v'):=by
         refine⟨?_,(((HJ.o.keep.alloc hks _).drew).trans ⟨hg8.os,hg8.tape,hg8.output,hg8.size,fun j hj=>hg8.block j (by simp;omega) (oo_ HJ.o.own hj)⟩)⟩
         rw[tn_ (by rw[HPL.o];have:=HP.o;omega),List.map_append,HNX.o]
         exact hown8
        clear hown8 hg8
        go_wp2)
       all_goals go_roundw
       all_goals first | exact⟨k+1,p+2,by have:=HP.o;omega,by have:=HP.o;unfold Hid;omega,by go_num,H8⟩ | (clear hwt hwp hwa hw0 hor;simp[intOf];omega)
      ·have hltI:¬ (p:Int)<(D.length:Int):=by omega
       have hkk:k=D.length/2:=by omega
       clear hp
       have hcv:=so_ (l:=(Fo.pairs D).take k) (by have:=HJ.o.own;rw[List.length_take,HPL.o,←hkk,Nat.min_self];exact this)
       have HTK:Hid ((Fo.pairs D).take k=Fo.pairs D):=by
        unfold Hid
        rw[List.take_of_length_le (by rw[HPL.o];omega)]
       rw[HTK.o]at hcv
       obtain⟨S,hS⟩:∃ S,strN (Fo.pairs D)=S:=⟨_,rfl⟩
       rw[hS]at hcv
       have HS:=hide hS
       clear hS
       go_wp2
       go_ret
       refine SRes.some_ HPR.o (by rw[strV,HS.o];rfl) (HBU.o.sc.other HJ.o.keep) (HBU.o.only.trans (.of_below HJ.o.keep))
    ·have hrem:((out.length:Int)).tmod 2=0:=by rw[Int.tmod_eq_emod_of_nonneg (by omega)];omega
     have HPR:Hid (R=some (Fo.pairs out,q)):=by unfold Hid;rw[HR.o,HRE.o];rfl
     have HEV:Hid (out.length%2=0):=by unfold Hid;omega
     simp only[List.length_cons]at hfew
     have hln6:out.length≤200001:=by omega
     clear hpar hfew
     obtain⟨w6,hw6⟩:∃ w6,w6=wr:=⟨_,rfl⟩
     subst hw6
     have HJ0:Hid (Jn w bs w6 out u3 w6 0 (.slice none 0 0)):=⟨World.ownsRow_nil _ _ _ _,Below.refl _ _⟩
     have HDat:Hid (∀ i,i<out.length→∃ g c,u3=.slice (some ⟨g,0,none⟩) out.length c∧g<w6.heap.size∧w6.cell? ⟨g,i,none⟩=some (.int .u8 (nth out i:Nat))):=fun i hi=>by
      obtain⟨g,c,hv,hg⟩:=owf HBU.o.own (by omega)
      refine⟨g,c,hv,?_,?_⟩
      ·have:=HBU.o.own
       rw[hv]at this
       exact(this.lt g rfl).2
      ·have:=HBU.o.own
       rw[hv]at this
       have hx:=this.cells (g:=g) rfl i (.int .u8 (nth out i:Nat)) (by rw[List.getElem?_map,List.getElem?_eq_getElem hi];simp[nth,List.getElem?_eq_getElem hi])
       rw[aa]at hx;exact hx
     have hDn:out.length≤200001:=hln6
     obtain⟨da,dc,hdv⟩:=ows HBU.o.own
     generalize hDD:out=D at *
     have HDD:=hide hDD
     clear hDD
     subst hdv
     have hev:D.length%2=0:=HEV.o
     have HPL:=hide (pl_ (D.length/2) D (by omega))
     go_wp2
     go_loopw [5,6] (fun ov i wr=>∃ k p:Nat,2*k≤D.length∧Hid (p=2*k)∧i=.int .i64 (p:Nat)∧Hid (Jn w bs w6 D (.slice da D.length dc) wr k ov)) (fun _ i _=>D.length-(intOf i).toNat)
     case atStart=>exact⟨0,0,by omega,hide rfl,rfl,HJ0⟩
     clear HJ0
     case round =>
      obtain⟨k,p,hk,HP,rfl,HJ⟩:=hrel
      have hp:=HP.o
      by_cases hlt:p<D.length
      ·have hltI:(p:Int)<(D.length:Int):=by omega
       obtain⟨g,c,hv,hg,hc0⟩:=HDat.o p hlt
       obtain⟨g',c',hv',_,hc1⟩:=HDat.o (p+1) (by omega)
       cases hv
       cases hv'
       have d0:=(HJ.o.keep.cell (p:=⟨g,p,none⟩) hg).trans hc0
       have d1:=(HJ.o.keep.cell (p:=⟨g,p+1,none⟩) hg).trans hc1
       have ha:=HDG.o.nth p hlt
       have hb:=HDG.o.nth (p+1) (by omega)
       have HNX:Hid (nth (Fo.pairs D) k=16*nth D p+nth D (p+1)):=by unfold Hid;rw[hp];exact pan k D (by omega)
       clear hc0 hc1
       generalize nth D p=a at *
       generalize nth D (p+1)=b at *
       have hor:bits BinOp.or IntKind.u8 ((a:Int)*16) (b:Int)=((16*a+b:Nat):Int):=by
        have:=u8_or_nat (a*16) b (by omega) (by omega)
        rw[join16 a b ha hb]at this
        simp only[Int.natCast_mul,Int.natCast_add]at this ⊢
        rw[show((16:Nat):Int)=16 from rfl]at this ⊢
        rw[this];omega
       obtain⟨z,hzz⟩:∃ z,16*a+b=z:=⟨_,rfl⟩
       rw[hzz]at hor HNX
       clear hzz
       have hk2:2*k+1<D.length:=by omega
       have hks:=HJ.o.keep.size
       have hI1:(p:Int)+1<(D.length:Int):=by omega
       have hwa:IntKind.u8.wrap ((a:Int)*16)=(a:Int)*16:=by rw[IntKind.wrap_u8];omega
       have hwp:IntKind.i64.wrap ((p:Int)+1)=(p:Int)+1:=by rw[IntKind.wrap_i64];omega
       have hwt:((p:Int)+1).toNat=p+1:=by omega
       have hw0:(0:Int)≤(p:Int)+1:=by omega
       have hkI:(p:Int)≤200001:=by omega
       have hkN:k≤200001:=by omega
       clear hp
       go_wp2_with fail
       go_region_law (refine sao rfl (.tmp 31) (.tmp 43) 23 rfl w6.heap.size 5 i0 (.int .u8 0) 1 1 Tryz.underlying23 hi hz0 hz1 hz2 rfl (by decide) u5 k _ rfl (World.ownsRow.drew (HJ.o.own.alloc _)) ⟨wr.heap.size,0,none⟩ 1 1 ([z].map fun x:Nat=>.int .u8 (x:Int)) rfl rfl ?hnews ?hone ?h63 ?hby ?hb ?_;(case hnews=>exact Bu.one_news z wr);(case hone=>intro u hu;simp at hu;subst hu;rfl);(case h63=>unfold maxLen;omega);(case hby=>omega);(case hb=>simp;omega);intro v' w8 hown8 hg8 _)
       all_goals (
        have H8:Hid (Jn w bs w6 D (.slice (some ⟨g,0,none⟩) D.length dc) w8 (k+1) v'):=by
         refine⟨?_,(((HJ.o.keep.alloc hks _).drew).trans ⟨hg8.os,hg8.tape,hg8.output,hg8.size,fun j hj=>hg8.block j (by simp;omega) (oo_ HJ.o.own hj)⟩)⟩
         rw[tn_ (by rw[HPL.o];have:=HP.o;omega),List.map_append,HNX.o]
         exact hown8
        clear hown8 hg8
        go_wp2)
       all_goals go_roundw
       all_goals first | exact⟨k+1,p+2,by have:=HP.o;omega,by have:=HP.o;unfold Hid;omega,by go_num,H8⟩ | (clear hwt hwp hwa hw0 hor;simp[intOf];omega)
      ·have hltI:¬ (p:Int)<(D.length:Int):=by omega
       have hkk:k=D.length/2:=by omega
       clear hp
       have hcv:=so_ (l:=(Fo.pairs D).take k) (by have:=HJ.o.own;rw[List.length_take,HPL.o,←hkk,Nat.min_self];exact this)
       have HTK:Hid ((Fo.pairs D).take k=Fo.pairs D):=by
        unfold Hid
        rw[List.take_of_length_le (by rw[HPL.o];omega)]
       rw[HTK.o]at hcv
       obtain⟨S,hS⟩:∃ S,strN (Fo.pairs D)=S:=⟨_,rfl⟩
       rw[hS]at hcv
       have HS:=hide hS
       clear hS
       go_wp2
       go_ret
       refine SRes.some_ HPR.o (by rw[strV,HS.o];rfl) (HBU.o.sc.other HJ.o.keep) (HBU.o.only.trans (.of_below HJ.o.keep))
   ·have h62':((b:Int) != 62)=true:=by simp;omega
    cases hx:Fo.hexVal b with
    |none =>
     have HE:Hid (R=none):=by unfold Hid;rw[HR.o,←HRQ.o];simp[Fo.hexDigs,hwb,h62,hx,addTo]
     have HX:=hide (sVn b wr hx)
     clear hx HRQ
     go_wp2_with fail
     refine HX.o.mono ?_
     rintro e w' ⟨rfl,rfl⟩
     exact⟨rfl,SRes.none_ HE.o HBU.o.only⟩
    |some v =>
     have HRV:Hid (addTo (out++[v]) (Fo.hexDigs q)=RD):=by
      unfold Hid
      rw[←HRQ.o,←aTm];simp[Fo.hexDigs,hwb,h62,hx]
     have HX:=hide (sVo b v wr hx)
     have hv16:=hVl hx
     clear hx HRQ
     go_wp2_with fail
     refine HX.o.mono ?_
     rintro e w' ⟨rfl,rfl⟩
     have hsz:=HBU.o.sz
     go_wp2_with (at_builtin;refine wpList_append_own _ rfl (.tmp 13) (.tmp 16) 23 rfl w.heap.size 5 i0 (.int .u8 0) 1 1 Tryz.underlying23 hi hz0 hz1 hz2 rfl (by decide) u3 out.length _ rfl (HBU.o.alloc _).own ⟨w'.heap.size,0,none⟩ 1 1 ([v].map fun x:Nat=>.int .u8 (x:Int)) rfl rfl (Bu.one_news v w') ?hone ?h63 ?hby ?hbs ?_)
     case hone=>intro u hu;simp at hu;subst hu;rfl
     case h63=>unfold maxLen;simp only[List.length_cons]at hfew;omega
     case hby=>simp only[List.length_cons]at hfew;omega
     case hbs=>simp;omega
     intro v6 w6 own6 hg6 _
     have H6:=hide ((HBU.o.alloc _).app (xs:=[v]) (by simp) own6 hg6 (by simp only[List.length_cons,List.length_nil]at hfew ⊢;omega))
     clear own6 hg6
     have HN:=hide (sIo H6.o.sc)
     unfold InkTo at HN
     have HRW:Hid (addTo (out++[v]) (Fo.hexDigs (q.dropWhile whB))=RD):=by unfold Hid;rw[←Fo.hexDigs_white];exact HRV.o
     cases hq:q.dropWhile whB with
     |nil =>
      rw[hq]at HN HRW
      simp only[]at HN
      have HE:Hid (R=none):=by unfold Hid;rw[HR.o,←HRW.o];rfl
      clear hq
      go_wp2_with fail
      refine HN.o.mono ?_
      rintro e w7 ⟨rfl,k7⟩
      exact⟨rfl,SRes.none_ HE.o (H6.o.only.trans k7)⟩
     |cons b1 t1 =>
      have hw1:=dWh q b1 t1 hq
      have hl1:=Fo.dropWhile_len (p:=whB) q
      have hb1:b1<256:=HBU.o.sc.bytes b1 ((List.dropWhile_suffix whB).subset (by rw[hq];simp))
      rw[hq]at HN HRW hl1
      simp only[]at HN
      clear hq
      go_wp2_with fail
      refine HN.o.mono ?_
      rintro e w7 ⟨rfl,h7,k7⟩
      simp only[List.length_cons]at hl1 hfew
      have H7:=hide (H6.o.step h7 k7 (by omega))
      have HM7:=hide h7.posS
      have hq7:=h7.le
      have hle6:=HBU.o.sc.le
      clear h7 k7
      go_wp2
      go_roundw
      case rel=>exact⟨b1,t1,out++[v],rfl,hw1,hb1,by simp only[List.length_append,List.length_cons,List.length_nil];omega,H7,HDG.o.snoc hv16,HRW⟩
      case measure =>
       rw[HPQ.o,HM7.o]
       omega
end
section
def oH:List Nat→Bool
 | []=>false
 |b::_=>decide (48≤b)&&decide (b≤55)
namespace Fo
def octGo:Nat→Nat→List Nat→Nat × List Nat
 |0,n,r=>(n,r)
 |k+1,n,r=>if oH r then octGo k (8*n+(r.headD 0-48)) r.tail else(n,r)
def octal(r:List Nat):Nat × List Nat:=octGo 3 0 r
def escaped(b:Nat):Option Nat:=if b=110 then some 10 else if b=114 then some 13 else if b=116 then some 9 else if b=98 then some 8 else if b=102 then some 12 else if b=40∨b=41∨b=92 then some b else none
def behind(r:List Nat):Option (List Nat × List Nat):=
 match lineEnd r with
 |some q=>some ([],q)
 |none=>if oH r then(if(octal r).1≤255 then some ([(octal r).1],(octal r).2)else none)else match r with
  | []=>none
  |b::t=>match escaped b with
   |none=>none
   |some c=>some ([c],t)
end Fo
variable{B bs cap:Nat}{ao:Option Addr}{data:List Nat}{x2 x3 x4:Value}{w w':World}{r q:List Nat}
variable{w0:World}{ov:Value}{out:List Nat}
theorem soAo(h:Sc B bs ao cap data x2 x3 x4 w r) :
  Calls Tryz.prog 324 #[.pointer (some ⟨bs,0,none⟩)] w fun e w'=>e=.returned (.bool (oH r))∧∃ m,w'=w.drewN m:=by
 have H:=hide h
 cases r with
 |nil =>
  have t1:decide ((0:Int)<(([]:List Nat).length:Int))=false:=by simp
  clear h
  go_enter Tryz.func324,Tryz.ntmps324
  go_wp2_with fail
  go_quiet ((go_at_call 190;exact Calls.quiet_of (slo (H.o.drewN _))))
  go_wp2
  go_ret
  exact⟨rfl,nq,rfl⟩
 |cons b t =>
  obtain⟨hlt,_,hb,bd,o,rfl,hbd,hc⟩:=h.cons
  have c0:=h.c0
  have c1:=h.c1
  have hlen:=h.len
  have hlc:=h.lc
  have t1:decide ((0:Int)<((b::t).length:Int))=true:=by simp only[List.length_cons,decide_eq_true_eq];omega
  clear h
  have e1:(decide ((48:Int)≤(b:Int))&&decide ((b:Int)≤55))=oH (b::t):=by
   unfold oH
   rw[Bool.eq_iff_iff];simp;omega
  have HW:=hide (fun W=>wib (b:Int) 48 55 W)
  rw[e1]at HW
  clear e1
  generalize oH (b::t)=v at *
  generalize data.length-(b::t).length=p at *
  have hltI:(p:Int)<(data.length:Int):=by omega
  go_enter Tryz.func324,Tryz.ntmps324
  go_wp2_with fail
  go_quiet (first | (go_at_call 190;exact Calls.quiet_of (slo (H.o.drewN _))) | (go_at_call 216;exact Calls.quiet_of_same (HW.o _)))
  go_wp2
  go_ret
  exact⟨by simp,nq,rfl⟩
theorem oGs:∀(k n:Nat) (r:List Nat),(Fo.octGo k n r).2 <:+ r
 |0,n,r=>List.suffix_refl _
 |k+1,n,r=>by
  simp only[Fo.octGo]
  split
  ·exact(oGs k _ r.tail).trans (List.tail_suffix r)
  ·exact List.suffix_refl _
def OctTo(B bs:Nat)(ao:Option Addr)(cap:Nat)(data:List Nat)(x2 x3 x4:Value)(w:World)(N:Nat)(Q:List Nat)(e:Ending)(w':World):Prop:=
 if N≤255 then e=.returned (.int .u8 (N:Nat))∧Sc B bs ao cap data x2 x3 x4 w' Q∧Only bs w w' else e=gU 4∧Only bs w w'
theorem soo(h:Sc B bs ao cap data x2 x3 x4 w r) :
  Calls Tryz.prog 325 #[.pointer (some ⟨bs,0,none⟩)] w (OctTo B bs ao cap data x2 x3 x4 w (Fo.octal r).1 (Fo.octal r).2):=by
 have H:=hide h
 clear h
 obtain⟨N,Q,hNQ⟩:∃ N Q,Fo.octal r=(N,Q):=⟨_,_,rfl⟩
 have HNQ:Hid (Fo.octGo 3 0 r=(N,Q)):=hNQ
 rw[hNQ]
 clear hNQ
 simp only[]
 go_enter Tryz.func325,Tryz.ntmps325
 go_wp2
 go_loopw [3,4] (fun n i wr=>∃(k N1:Nat) (q:List Nat),k≤3∧Hid (N1<8^k)∧n=.int .i64 (N1:Nat)∧i=.int .i64 (k:Nat)∧Hid (Sc B bs ao cap data x2 x3 x4 wr q)∧Hid (Only bs w wr)∧Hid (Fo.octGo (3-k) N1 q=(N,Q))) (fun _ i _=>3-(intOf i).toNat)
 case atStart=>exact⟨0,0,r,by omega,hide (by omega),rfl,rfl,H,Only.refl _ _,HNQ⟩
 clear H HNQ
 case round =>
  obtain⟨k,N1,q,hk,HN1,rfl,rfl,HQ,HO,HG⟩:=hrel
  have hN512:N1<512:=by
   have:(8:Nat)^k≤8^3:=Nat.pow_le_pow_right (by omega) hk
   have:=HN1.o
   omega
  have HA:=hide (soAo HQ.o)
  by_cases hk3:k<3
  ·have hk3':decide ((k:Int)<3)=true:=by simp;omega
   cases hh:oH q
   ·rw[hh]at HA
    obtain⟨rfl,rfl⟩:N1=N∧q=Q:=by
     have:=HG.o
     obtain⟨j,hj⟩:∃ j,3-k=j+1:=⟨2-k,by omega⟩
     rw[hj,Fo.octGo,hh]at this
     simpa using this
    clear HG hh
    by_cases h255:N1≤255
    ·have hu8:IntKind.u8.wrap (N1:Int)=(N1:Int):=by rw[IntKind.wrap_u8];omega
     go_wp2_with fail
     refine HA.o.mono ?_
     rintro e w1 ⟨rfl,m,rfl⟩
     go_wp2_with fail
     refine(wiy (N1:Int) 0 255 _ (by omega) (by omega)).mono ?_
     rintro e w' ⟨rfl,rfl⟩
     go_wp2_with fail
     refine(smy _).mono ?_
     rintro e w' ⟨rfl,rfl⟩
     go_wp2
     go_ret
     unfold OctTo
     rw[if_pos h255]
     exact⟨rfl,HQ.o.drewN m,HO.o.drewN m⟩
    ·go_wp2_with fail
     refine HA.o.mono ?_
     rintro e w1 ⟨rfl,m,rfl⟩
     go_wp2_with fail
     refine(win (N1:Int) 0 255 _ (Or.inr (by omega))).mono ?_
     rintro e w' ⟨rfl,rfl⟩
     go_wp2_with fail
     refine(sn _).mono ?_
     rintro e w' ⟨rfl,rfl⟩
     refine⟨rfl,?_⟩
     unfold OctTo
     rw[if_neg h255]
     exact⟨rfl,HO.o.drewN m⟩
   ·rw[hh]at HA
    cases q with
    |nil=>cases hh
    |cons b t =>
     have hb:48≤b∧b≤55:=by simpa[oH]using hh
     have HG2:Hid (Fo.octGo (3-(k+1)) (8*N1+(b-48)) t=(N,Q)):=by
      have:=HG.o
      obtain⟨j,hj⟩:∃ j,3-k=j+1:=⟨2-k,by omega⟩
      rw[hj,Fo.octGo,hh]at this
      unfold Hid
      rw[show 3-(k+1)=j by omega]
      simpa using this
     have HN2:Hid (8*N1+(b-48)<8^(k+1)):=by
      have:=HN1.o
      unfold Hid
      rw[Nat.pow_succ];omega
     have HNX:=hide (fun m=>sno (HQ.o.drewN m))
     have hs:IntKind.u8.wrap ((b:Int)-48)=(b:Int)-48:=by rw[IntKind.wrap_u8];omega
     have he:(N1:Int)*8+((b:Int)-48)=((8*N1+(b-48):Nat):Int):=by omega
     have HE:=hide he
     clear HG hh he HN1
     go_wp2_with fail
     refine HA.o.mono ?_
     rintro e w1 ⟨rfl,m,rfl⟩
     go_wp2_with fail
     refine(HNX.o m).mono ?_
     rintro e w2 ⟨rfl,h2,k2⟩
     have H2:=hide h2
     have K2:=hide ((HO.o.drewN m).trans k2)
     clear h2 k2
     go_wp2
     go_roundw
     case rel=>exact⟨k+1,8*N1+(b-48),t,by omega,HN2,by rw[←HE.o],by go_num,H2,K2,HG2⟩
     case measure=>simp[intOf];omega
  ·have hk3':decide ((k:Int)<3)=false:=by simp;omega
   obtain⟨rfl,rfl⟩:N1=N∧q=Q:=by
    have:=HG.o
    rw[show 3-k=0 by omega,Fo.octGo]at this
    simpa using this
   clear HG HA
   by_cases h255:N1≤255
   ·have hu8:IntKind.u8.wrap (N1:Int)=(N1:Int):=by rw[IntKind.wrap_u8];omega
    go_wp2_with fail
    refine(wiy (N1:Int) 0 255 _ (by omega) (by omega)).mono ?_
    rintro e w' ⟨rfl,rfl⟩
    go_wp2_with fail
    refine(smy _).mono ?_
    rintro e w' ⟨rfl,rfl⟩
    go_wp2
    go_ret
    unfold OctTo
    rw[if_pos h255]
    exact⟨rfl,HQ.o,HO.o⟩
   ·go_wp2_with fail
    refine(win (N1:Int) 0 255 _ (Or.inr (by omega))).mono ?_
    rintro e w' ⟨rfl,rfl⟩
    go_wp2_with fail
    refine(sn _).mono ?_
    rintro e w' ⟨rfl,rfl⟩
    refine⟨rfl,?_⟩
    unfold OctTo
    rw[if_neg h255]
    exact⟨rfl,HO.o⟩
def EscTo(b:Nat)(w:World)(e:Ending)(w':World):Prop:=
 match Fo.escaped b with
 |some c=>e=.returned (.int .u8 (c:Nat))∧w'=w
 |none=>e=gU 4∧w'=w
theorem se1(w:World):Calls Tryz.prog 326 #[.int .u8 (110:Nat)] w (EscTo 110 w):=by
 go_enter Tryz.func326,Tryz.ntmps326
 go_wp2
 go_ret
 exact⟨rfl,rfl⟩
theorem s1_(w:World):Calls Tryz.prog 326 #[.int .u8 (114:Nat)] w (EscTo 114 w):=by
 go_enter Tryz.func326,Tryz.ntmps326
 go_wp2
 go_ret
 exact⟨rfl,rfl⟩
theorem s10(w:World):Calls Tryz.prog 326 #[.int .u8 (116:Nat)] w (EscTo 116 w):=by
 go_enter Tryz.func326,Tryz.ntmps326
 go_wp2
 go_ret
 exact⟨rfl,rfl⟩
theorem s9(w:World):Calls Tryz.prog 326 #[.int .u8 (98:Nat)] w (EscTo 98 w):=by
 go_enter Tryz.func326,Tryz.ntmps326
 go_wp2
 go_ret
 exact⟨rfl,rfl⟩
theorem s1_0(w:World):Calls Tryz.prog 326 #[.int .u8 (102:Nat)] w (EscTo 102 w):=by
 go_enter Tryz.func326,Tryz.ntmps326
 go_wp2
 go_ret
 exact⟨rfl,rfl⟩
theorem s4(w:World):Calls Tryz.prog 326 #[.int .u8 (40:Nat)] w (EscTo 40 w):=by
 go_enter Tryz.func326,Tryz.ntmps326
 go_wp2_with (go_at_call 99;refine(smy _).mono ?_;rintro e w' ⟨rfl,rfl⟩)
 go_ret
 exact⟨rfl,rfl⟩
theorem se4(w:World):Calls Tryz.prog 326 #[.int .u8 (41:Nat)] w (EscTo 41 w):=by
 go_enter Tryz.func326,Tryz.ntmps326
 go_wp2_with (go_at_call 99;refine(smy _).mono ?_;rintro e w' ⟨rfl,rfl⟩)
 go_ret
 exact⟨rfl,rfl⟩
theorem se9(w:World):Calls Tryz.prog 326 #[.int .u8 (92:Nat)] w (EscTo 92 w):=by
 go_enter Tryz.func326,Tryz.ntmps326
 go_wp2_with (go_at_call 99;refine(smy _).mono ?_;rintro e w' ⟨rfl,rfl⟩)
 go_ret
 exact⟨rfl,rfl⟩
theorem seo(b:Nat)(w:World):Calls Tryz.prog 326 #[.int .u8 (b:Nat)] w (EscTo b w):=by
 by_cases h110:b=110
 ·subst h110;exact se1 w
 by_cases h114:b=114
 ·subst h114;exact s1_ w
 by_cases h116:b=116
 ·subst h116;exact s10 w
 by_cases h98:b=98
 ·subst h98;exact s9 w
 by_cases h102:b=102
 ·subst h102;exact s1_0 w
 by_cases h40:b=40
 ·subst h40;exact s4 w
 by_cases h41:b=41
 ·subst h41;exact se4 w
 by_cases h92:b=92
 ·subst h92;exact se9 w
 have e110:((b:Int)==110)=false:=by simp;omega
 have e114:((b:Int)==114)=false:=by simp;omega
 have e116:((b:Int)==116)=false:=by simp;omega
 have e98:((b:Int)==98)=false:=by simp;omega
 have e102:((b:Int)==102)=false:=by simp;omega
 have e40:((b:Int)==40)=false:=by simp;omega
 have e41:((b:Int)==41)=false:=by simp;omega
 have e92:((b:Int)==92)=false:=by simp;omega
 have HE:Hid (Fo.escaped b=none):=by
  unfold Hid Fo.escaped
  rw[if_neg h110,if_neg h114,if_neg h116,if_neg h98,if_neg h102,if_neg (by omega)]
 clear h110 h114 h116 h98 h102 h40 h41 h92
 go_enter Tryz.func326,Tryz.ntmps326
 go_wp2_with fail
 refine(sn _).mono ?_
 rintro e w' ⟨rfl,rfl⟩
 refine⟨rfl,?_⟩
 unfold EscTo
 rw[HE.o]
 exact⟨rfl,rfl⟩
def BehindTo(w0:World)(B bs:Nat)(ao:Option Addr)(cap:Nat)(data:List Nat)(x2 x3 x4:Value)(out:List Nat)(o:Option (List Nat × List Nat))(e:Ending)(w':World):Prop:=
 match o with
 |some (l,q)=>∃ v,e=.returned v∧Bu w0 B bs ao cap data x2 x3 x4 w' q v (out++l)
 |none=>e=gU 4∧Only bs w0 w'
theorem BehindTo.none_{o:Option (List Nat × List Nat)}(h:o=none)(k:Only bs w0 w'):BehindTo w0 B bs ao cap data x2 x3 x4 out o (gU 4) w':=by
 subst h;exact⟨rfl,k⟩
theorem BehindTo.some_{o:Option (List Nat × List Nat)}{l q:List Nat}{v:Value}(h:o=some (l,q))(hb:Bu w0 B bs ao cap data x2 x3 x4 w' q v (out++l)):BehindTo w0 B bs ao cap data x2 x3 x4 out o (.returned v) w':=by
 subst h;exact⟨v,rfl,hb⟩
theorem lEl{r q:List Nat}(h:Fo.lineEnd r=some q):q.length+1≤r.length:=by
 unfold Fo.lineEnd at h
 cases e1:Fo.takes [13,10] r with
 |some x=>rw[e1]at h;cases h;have:=(Fo.takes_len e1).1;simp only[List.length_cons,List.length_nil]at this;omega
 |none =>
  cases e2:Fo.takes [10] r with
  |some x=>rw[e1,e2]at h;cases h;have:=(Fo.takes_len e2).1;simp only[List.length_cons,List.length_nil]at this;omega
  |none=>rw[e1,e2]at h;have:=(Fo.takes_len (show Fo.takes [13] r=some q from h)).1;simp only[List.length_cons,List.length_nil]at this;omega
theorem ocl{r:List Nat}(h:oH r=true):(Fo.octal r).2.length+1≤r.length:=by
 cases r with
 |nil=>cases h
 |cons b t =>
  unfold Fo.octal
  rw[Fo.octGo,if_pos h]
  have:=(oGs 2 (8*0+((b::t).headD 0-48)) (b::t).tail).length_le
  simp only[List.tail_cons,List.length_cons]at this ⊢;omega
theorem saEo(h:Bu w0 B bs ao cap data x2 x3 x4 w q ov out) :
  Calls Tryz.prog 305 #[.pointer (some ⟨bs,0,none⟩),ov] w (BehindTo w0 B bs ao cap data x2 x3 x4 out (Fo.behind q)):=by
 obtain⟨i0,hi,hz0,hz1,hz2⟩:=info_parts Tryz.infoByte
 have H:=hide h
 have HL:=hide (sEo h.sc)
 have hln:=h.sc.len
 clear h
 obtain⟨R,hR⟩:∃ R,Fo.behind q=R:=⟨_,rfl⟩
 rw[hR]
 have HR:=hide hR
 clear hR
 cases hl:Fo.lineEnd q with
 |some q1 =>
  rw[hl]at HL
  have HE:Hid (R=some ([],q1)):=by unfold Hid;rw[←HR.o];unfold Fo.behind;rw[hl]
  have hle:=lEl hl
  clear hl HR
  go_enter Tryz.func305,Tryz.ntmps305
  go_wp2_with fail
  refine HL.o.mono ?_
  rintro e w1 ⟨rfl,h1,k1⟩
  have H1:=hide (H.o.step (show Sc B bs ao cap data x2 x3 x4 w1 q1 from h1) k1 (by omega))
  clear h1 k1
  go_wp2
  go_ret
  exact BehindTo.some_ HE.o (by rw[List.append_nil];exact H1.o)
 |none =>
  rw[hl]at HL
  go_enter Tryz.func305,Tryz.ntmps305
  go_wp2_with fail
  refine HL.o.mono ?_
  rintro e w1 ⟨rfl,h1,k1⟩
  have H1:=hide (H.o.step (show Sc B bs ao cap data x2 x3 x4 w1 q from h1) k1 (Nat.le_refl _))
  have HA:=hide (soAo H1.o.sc)
  clear h1 k1 HL H
  cases ho:oH q
  ·rw[ho]at HA
   cases q with
   |nil =>
    have HE:Hid (R=none):=by unfold Hid;rw[←HR.o];unfold Fo.behind;rw[hl];simp[ho]
    have HN:=hide (fun m=>snn (H1.o.drewN m).sc)
    clear hl ho HR
    go_wp2_with fail
    refine HA.o.mono ?_
    rintro e w2 ⟨rfl,m,rfl⟩
    go_wp2_with fail
    refine(HN.o m).mono ?_
    rintro e w3 ⟨rfl,m3,rfl⟩
    exact⟨rfl,BehindTo.none_ HE.o ((H1.o.drewN m).only.drewN m3)⟩
   |cons b t =>
    have HN:=hide (fun m=>sno (H1.o.drewN m).sc)
    have HB:Hid (R=match Fo.escaped b with | none=>none | some c=>some ([c],t)):=by unfold Hid;rw[←HR.o];unfold Fo.behind;rw[hl];simp[ho]
    clear hl ho HR
    go_wp2_with fail
    refine HA.o.mono ?_
    rintro e w2 ⟨rfl,m,rfl⟩
    go_wp2_with fail
    refine(HN.o m).mono ?_
    rintro e w3 ⟨rfl,h3,k3⟩
    have H3:=hide ((H1.o.drewN m).step h3 k3 (by simp))
    have hfew:=H1.o.few
    clear h3 k3 HN HA H1
    have HX:=hide (seo b w3)
    unfold EscTo at HX
    cases he:Fo.escaped b with
    |none =>
     rw[he]at HX HB
     simp only[]at HX HB
     clear he
     go_wp2_with fail
     refine HX.o.mono ?_
     rintro e w' ⟨rfl,rfl⟩
     exact⟨rfl,BehindTo.none_ HB.o H3.o.only⟩
    |some c =>
     rw[he]at HX HB
     simp only[]at HX HB
     clear he
     go_wp2_with fail
     refine HX.o.mono ?_
     rintro e w' ⟨rfl,rfl⟩
     have hsz:=H3.o.sz
     simp only[List.length_cons]at hfew
     go_wp2_with (at_builtin;refine wpList_append_own _ rfl (.tmp 15) (.tmp 19) 23 rfl w0.heap.size 5 i0 (.int .u8 0) 1 1 Tryz.underlying23 hi hz0 hz1 hz2 rfl (by decide) ov out.length _ rfl (H3.o.alloc _).own ⟨w'.heap.size,0,none⟩ 1 1 ([c].map fun x:Nat=>.int .u8 (x:Int)) rfl rfl (Bu.one_news c w') ?hone ?h63 ?hby ?hbs ?_)
     case hone=>intro u hu;simp at hu;subst hu;rfl
     case h63=>unfold maxLen;omega
     case hby=>omega
     case hbs=>simp;omega
     intro v6 w6 own6 hg6 _
     have H6:=hide ((H3.o.alloc _).app (xs:=[c]) (by simp) own6 hg6 (by simp only[List.length_cons,List.length_nil];omega))
     clear own6 hg6
     go_wp2
     go_ret
     exact BehindTo.some_ HB.o H6.o
  ·rw[ho]at HA
   have HO:=hide (fun m=>soo (H1.o.drewN m).sc)
   have hol:=ocl ho
   have HB:Hid (R=if(Fo.octal q).1≤255 then some ([(Fo.octal q).1],(Fo.octal q).2)else none):=by unfold Hid;rw[←HR.o];unfold Fo.behind;rw[hl];simp[ho]
   clear hl ho HR
   generalize (Fo.octal q).1=N at *
   generalize (Fo.octal q).2=Q at *
   unfold OctTo at HO
   go_wp2_with fail
   refine HA.o.mono ?_
   rintro e w2 ⟨rfl,m,rfl⟩
   by_cases h255:N≤255
   ·simp only[if_pos h255]at HO
    have HB2:Hid (R=some ([N],Q)):=by unfold Hid;rw[HB.o,if_pos h255]
    clear HB
    go_wp2_with fail
    refine(HO.o m).mono ?_
    rintro e w3 ⟨rfl,h3,k3⟩
    have H3:=hide ((H1.o.drewN m).step h3 k3 (by omega))
    have hfew:=H1.o.few
    clear h3 k3 HO HA H1
    have hsz:=H3.o.sz
    go_wp2_with (at_builtin;refine wpList_append_own _ rfl (.tmp 10) (.tmp 13) 23 rfl w0.heap.size 5 i0 (.int .u8 0) 1 1 Tryz.underlying23 hi hz0 hz1 hz2 rfl (by decide) ov out.length _ rfl (H3.o.alloc _).own ⟨w3.heap.size,0,none⟩ 1 1 ([N].map fun x:Nat=>.int .u8 (x:Int)) rfl rfl (Bu.one_news N w3) ?hone ?h63 ?hby ?hbs ?_)
    case hone=>intro u hu;simp at hu;subst hu;rfl
    case h63=>unfold maxLen;omega
    case hby=>omega
    case hbs=>simp;omega
    intro v6 w6 own6 hg6 _
    have H6:=hide ((H3.o.alloc _).app (xs:=[N]) (by simp) own6 hg6 (by simp only[List.length_cons,List.length_nil];omega))
    clear own6 hg6
    go_wp2
    go_ret
    exact BehindTo.some_ HB2.o H6.o
   ·simp only[if_neg h255]at HO
    have HB2:Hid (R=none):=by unfold Hid;rw[HB.o,if_neg h255]
    clear HB
    go_wp2_with fail
    refine(HO.o m).mono ?_
    rintro e w3 ⟨rfl,k3⟩
    exact⟨rfl,BehindTo.none_ HB2.o ((H1.o.drewN m).only.trans k3)⟩
end
end Go.Proofs.YtgkljcmjnphpeaaGreatDoor
