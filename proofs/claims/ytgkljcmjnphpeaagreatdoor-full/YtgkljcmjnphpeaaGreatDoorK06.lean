import Derived.Test.YtgkljcmjnphpeaaGreatDoorK05
set_option linter.unusedVariables false
set_option linter.unusedSimpArgs false
set_option maxHeartbeats 4000000
set_option maxRecDepth 100000
namespace Go.Proofs.YtgkljcmjnphpeaaGreatDoor
open Go.RowKit
section
namespace Fo
def strGo:Nat→Nat→List Nat→Option (List Nat × List Nat)
 |0,_,_=>none
 |f+1,o,r=>match lineEnd r with
  |some q=>(strGo f o q).map fun x=>(10::x.1,x.2)
  |none=>match r with
   | []=>none
   |b::t=>if b=92 then(match behind t with
     |none=>none
     |some (l,q)=>(strGo f o q).map fun x=>(l++x.1,x.2))
    else if b=40 then(strGo f (o+1) t).map fun x=>(b::x.1,x.2)
    else if b=41 then(if o=1 then some ([],t)else(strGo f (o-1) t).map fun x=>(b::x.1,x.2))
    else(strGo f o t).map fun x=>(b::x.1,x.2)
def quoted(r:List Nat):Option (List Nat × List Nat):=strGo (r.length+1) 1 r
end Fo
theorem aTa(out l:List Nat)(o:Option (List Nat × List Nat)):addTo out (o.map fun x=>(l++x.1,x.2))=addTo (out++l) o:=by
 cases o with
 |none=>rfl
 |some x=>simp[addTo]
theorem bl_{r l q:List Nat}(h:Fo.behind r=some (l,q)):l.length+q.length≤r.length:=by
 unfold Fo.behind at h
 cases hl:Fo.lineEnd r with
 |some x=>rw[hl]at h;cases h;have:=lEl hl;simp only[List.length_nil];omega
 |none =>
  rw[hl]at h
  simp only[]at h
  by_cases ho:oH r=true
  ·rw[if_pos ho]at h
   by_cases h2:(Fo.octal r).1≤255
   ·rw[if_pos h2]at h;cases h;have:=ocl ho;simp only[List.length_cons,List.length_nil];omega
   ·rw[if_neg h2]at h;cases h
  ·rw[if_neg ho]at h
   cases r with
   |nil=>cases h
   |cons b t =>
    simp only[]at h
    cases he:Fo.escaped b with
    |none=>rw[he]at h;cases h
    |some c=>rw[he]at h;cases h;simp only[List.length_cons,List.length_nil];omega
variable{B bs cap:Nat}{ao:Option Addr}{data:List Nat}{x2 x3 x4:Value}{w w':World}{r q:List Nat}
variable{w0:World}{ov:Value}{out:List Nat}
theorem sqo(h:Sc B bs ao cap data x2 x3 x4 w r) :
  Calls Tryz.prog 254 #[.pointer (some ⟨bs,0,none⟩)] w (SRes B bs ao cap data x2 x3 x4 strV (Fo.quoted r) w):=by
 obtain⟨i0,hi,hz0,hz1,hz2⟩:=info_parts Tryz.infoByte
 have H:=hide (Bu.start h)
 have hln:=h.len
 have hle0:=h.le
 clear h
 obtain⟨R,hR⟩:∃ R,Fo.quoted r=R:=⟨_,rfl⟩
 rw[hR]
 have HR:Hid (addTo [] (Fo.strGo (r.length+1) 1 r)=R):=by
  unfold Hid
  rw[←hR];unfold Fo.quoted addTo
  cases Fo.strGo (r.length+1) 1 r<;>simp
 clear hR
 go_enter Tryz.func254,Tryz.ntmps254
 go_wp2
 go_loopw [3,4,5] (fun u v _ wr=>∃(f o:Nat) (q out:List Nat),v=.int .i64 (o:Nat)∧1≤o∧o+q.length≤200001∧q.length<f∧Hid (Bu w B bs ao cap data x2 x3 x4 wr q u out)∧Hid (addTo out (Fo.strGo f o q)=R)) (fun _ _ _ wr=>data.length-posS bs wr)
 case atStart=>exact⟨r.length+1,1,r,[],rfl,by omega,by omega,by omega,H,HR⟩
 clear H HR
 case round =>
  obtain⟨f,o,q,out,rfl,ho1,hoq,hf,HQ,HR⟩:=hrel
  obtain⟨f,rfl⟩:∃ f',f=f'+1:=⟨f-1,by omega⟩
  have HPQ:=hide HQ.o.sc.posS
  have hqle:=HQ.o.sc.le
  have hfew:=HQ.o.few
  have HL:=hide (sEo HQ.o.sc)
  cases hl:Fo.lineEnd q with
  |some q1 =>
   rw[hl]at HL
   have HR1:Hid (addTo (out++[10]) (Fo.strGo f o q1)=R):=by
    unfold Hid
    have e:Fo.strGo (f+1) o q=(Fo.strGo f o q1).map fun x=>(10::x.1,x.2):=by rw[Fo.strGo.eq_def];simp only[hl]
    rw[←HR.o,←aTm,e]
   have hle:=lEl hl
   clear hl HR
   go_wp2_with fail
   refine HL.o.mono ?_
   rintro e w1 ⟨rfl,h1,k1⟩
   have H1:=hide (HQ.o.step (show Sc B bs ao cap data x2 x3 x4 w1 q1 from h1) k1 (by omega))
   clear h1 k1 HL
   have hsz:=H1.o.sz
   go_wp2_with (at_builtin;refine wpList_append_own _ rfl (.tmp 8) (.tmp 9) 23 rfl w.heap.size 5 i0 (.int .u8 0) 1 1 Tryz.underlying23 hi hz0 hz1 hz2 rfl (by decide) u3 out.length _ rfl (H1.o.alloc _).own ⟨w1.heap.size,0,none⟩ 1 1 ([10].map fun x:Nat=>.int .u8 (x:Int)) rfl rfl (Bu.one_news 10 w1) ?hone ?h63 ?hby ?hbs ?_)
   case hone=>intro u hu;simp at hu;subst hu;rfl
   case h63=>unfold maxLen;omega
   case hby=>omega
   case hbs=>simp;omega
   intro v6 w6 own6 hg6 _
   have H6:=hide ((H1.o.alloc _).app (xs:=[10]) (by simp) own6 hg6 (by simp only[List.length_cons,List.length_nil];omega))
   have HM6:=hide H6.o.sc.posS
   clear own6 hg6
   go_wp2
   go_roundw
   case rel=>exact⟨f,o,q1,out++[10],rfl,ho1,by omega,by omega,H6,HR1⟩
   case measure =>
    rw[HPQ.o,HM6.o]
    omega
  |none =>
   rw[hl]at HL
   cases q with
   |nil =>
    have HE:Hid (R=none):=by unfold Hid;rw[←HR.o,Fo.strGo,hl];rfl
    clear hl HR
    go_wp2_with fail
    refine HL.o.mono ?_
    rintro e w1 ⟨rfl,h1,k1⟩
    have H1:=hide (HQ.o.step (show Sc B bs ao cap data x2 x3 x4 w1 []from h1) k1 (Nat.le_refl _))
    have HN:=hide (snn H1.o.sc)
    clear h1 k1 HL
    go_wp2_with fail
    refine HN.o.mono ?_
    rintro e w3 ⟨rfl,m3,rfl⟩
    exact⟨rfl,SRes.none_ HE.o (H1.o.only.drewN m3)⟩
   |cons b t =>
    have hb256:b<256:=HQ.o.sc.bytes b (by simp)
    simp only[List.length_cons]at hoq hf hqle hfew
    go_wp2_with fail
    refine HL.o.mono ?_
    rintro e w1 ⟨rfl,h1,k1⟩
    have H1:=hide (HQ.o.step (show Sc B bs ao cap data x2 x3 x4 w1 (b::t)from h1) k1 (Nat.le_refl _))
    have HN:=hide (sno H1.o.sc)
    clear h1 k1 HL
    go_wp2_with fail
    refine HN.o.mono ?_
    rintro e w2 ⟨rfl,h2,k2⟩
    have H2:=hide (H1.o.step h2 k2 (by simp))
    clear h2 k2 HN H1
    by_cases h92:b=92
    ·have HR1:Hid (addTo out (match Fo.behind t with | none=>none | some (l,q)=>(Fo.strGo f o q).map fun x=>(l++x.1,x.2))=R):=by
      unfold Hid
      rw[←HR.o,Fo.strGo,hl]
      simp[h92]
     have h92':((b:Int)==92)=true:=by rw[h92];rfl
     clear hl HR h92
     have HX:=hide (saEo H2.o)
     unfold BehindTo at HX
     cases hbh:Fo.behind t with
     |none =>
      rw[hbh]at HX HR1
      simp only[]at HX HR1
      have HE:Hid (R=none):=by unfold Hid;rw[←HR1.o];rfl
      clear hbh
      go_wp2_with fail
      refine HX.o.mono ?_
      rintro e w3 ⟨rfl,k3⟩
      exact⟨rfl,SRes.none_ HE.o k3⟩
     |some x =>
      obtain⟨l,q⟩:=x
      rw[hbh]at HX HR1
      simp only[]at HX HR1
      have hbl:=bl_ hbh
      have HR2:Hid (addTo (out++l) (Fo.strGo f o q)=R):=by unfold Hid;rw[←HR1.o,aTa]
      clear hbh HR1
      go_wp2_with fail
      refine HX.o.mono ?_
      rintro e w3 ⟨v3,rfl,h3⟩
      have H3:=hide h3
      have HM3:=hide h3.sc.posS
      have hq3:=h3.sc.le
      clear h3 HX
      go_wp2
      go_roundw
      case rel=>exact⟨f,o,q,out++l,rfl,ho1,by omega,by omega,H3,HR2⟩
      case measure =>
       rw[HPQ.o,HM3.o]
       simp only[List.length_cons]
       omega
    ·have h92':((b:Int)==92)=false:=by simp;omega
     have hsz:=H2.o.sz
     by_cases h40:b=40
     ·have HR1:Hid (addTo (out++[b]) (Fo.strGo f (o+1) t)=R):=by
       unfold Hid
       rw[←HR.o,←aTm]
       conv=>rhs;rw[Fo.strGo,hl]
       simp[h40]
      have h40':((b:Int)==40)=true:=by rw[h40];rfl
      have ho0:((o:Int)+1==0)=false:=by simp;omega
      clear hl HR h40 h92
      go_wp2_with (at_builtin;refine wpList_append_own _ rfl (.tmp 31) (.tmp 33) 23 rfl w.heap.size 5 i0 (.int .u8 0) 1 1 Tryz.underlying23 hi hz0 hz1 hz2 rfl (by decide) u3 out.length _ rfl (H2.o.alloc _).own ⟨w2.heap.size,0,none⟩ 1 1 ([b].map fun x:Nat=>.int .u8 (x:Int)) rfl rfl (Bu.one_news b w2) ?hone ?h63 ?hby ?hbs ?_)
      case hone=>intro u hu;simp at hu;subst hu;rfl
      case h63=>unfold maxLen;omega
      case hby=>omega
      case hbs=>simp;omega
      intro v6 w6 own6 hg6 _
      have H6:=hide ((H2.o.alloc _).app (xs:=[b]) (by simp) own6 hg6 (by simp only[List.length_cons,List.length_nil];omega))
      have HM6:=hide H6.o.sc.posS
      clear own6 hg6
      go_wp2
      go_roundw
      case rel=>exact⟨f,o+1,t,out++[b],by go_num,by omega,by omega,by omega,H6,HR1⟩
      case measure =>
       rw[HPQ.o,HM6.o]
       simp only[List.length_cons];omega
     ·have h40':((b:Int)==40)=false:=by simp;omega
      by_cases h41:b=41
      ·have h41':((b:Int)==41)=true:=by rw[h41];rfl
       by_cases hone:o=1
       ·subst hone
        have HE:Hid (R=some (out,t)):=by unfold Hid;rw[←HR.o,Fo.strGo,hl];simp[h41,addTo]
        have hcv:=so_ H2.o.own
        obtain⟨S,hS⟩:∃ S,strN out=S:=⟨_,rfl⟩
        rw[hS]at hcv
        have HS:=hide hS
        clear hl HR h40 h41 h92 hS
        go_wp2
        go_ret
        exact SRes.some_ HE.o (by rw[strV,HS.o];rfl) H2.o.sc H2.o.only
       ·have HR1:Hid (addTo (out++[b]) (Fo.strGo f (o-1) t)=R):=by
         unfold Hid
         rw[←HR.o,←aTm]
         conv=>rhs;rw[Fo.strGo,hl]
         simp[h41,hone]
        have ho0:((o:Int)-1==0)=false:=by simp;omega
        clear hl HR h40 h41 h92
        go_wp2_with (at_builtin;refine wpList_append_own _ rfl (.tmp 31) (.tmp 33) 23 rfl w.heap.size 5 i0 (.int .u8 0) 1 1 Tryz.underlying23 hi hz0 hz1 hz2 rfl (by decide) u3 out.length _ rfl (H2.o.alloc _).own ⟨w2.heap.size,0,none⟩ 1 1 ([b].map fun x:Nat=>.int .u8 (x:Int)) rfl rfl (Bu.one_news b w2) ?hone ?h63 ?hby ?hbs ?_)
        case hone=>intro u hu;simp at hu;subst hu;rfl
        case h63=>unfold maxLen;omega
        case hby=>omega
        case hbs=>simp;omega
        intro v6 w6 own6 hg6 _
        have H6:=hide ((H2.o.alloc _).app (xs:=[b]) (by simp) own6 hg6 (by simp only[List.length_cons,List.length_nil];omega))
        have HM6:=hide H6.o.sc.posS
        clear own6 hg6
        go_wp2
        go_roundw
        case rel=>exact⟨f,o-1,t,out++[b],by go_num,by omega,by omega,by omega,H6,HR1⟩
        case measure =>
         rw[HPQ.o,HM6.o]
         simp only[List.length_cons];omega
      ·have h41':((b:Int)==41)=false:=by simp;omega
       have HR1:Hid (addTo (out++[b]) (Fo.strGo f o t)=R):=by
        unfold Hid
        rw[←HR.o,←aTm]
        conv=>rhs;rw[Fo.strGo,hl]
        simp[h41,h40,h92]
       have ho0:((o:Int)==0)=false:=by simp;omega
       clear hl HR h40 h41 h92
       go_wp2_with (at_builtin;refine wpList_append_own _ rfl (.tmp 31) (.tmp 33) 23 rfl w.heap.size 5 i0 (.int .u8 0) 1 1 Tryz.underlying23 hi hz0 hz1 hz2 rfl (by decide) u3 out.length _ rfl (H2.o.alloc _).own ⟨w2.heap.size,0,none⟩ 1 1 ([b].map fun x:Nat=>.int .u8 (x:Int)) rfl rfl (Bu.one_news b w2) ?hone ?h63 ?hby ?hbs ?_)
       case hone=>intro u hu;simp at hu;subst hu;rfl
       case h63=>unfold maxLen;omega
       case hby=>omega
       case hbs=>simp;omega
       intro v6 w6 own6 hg6 _
       have H6:=hide ((H2.o.alloc _).app (xs:=[b]) (by simp) own6 hg6 (by simp only[List.length_cons,List.length_nil];omega))
       have HM6:=hide H6.o.sc.posS
       clear own6 hg6
       go_wp2
       go_roundw
       case rel=>exact⟨f,o,t,out++[b],rfl,by omega,by omega,by omega,H6,HR1⟩
       case measure =>
        rw[HPQ.o,HM6.o]
        simp only[List.length_cons];omega
end
section
variable{w:World}
namespace Fo
def cutSign:List Nat→List Nat × List Nat
 | []=>([],[])
 |b::t=>if b=43∨b=45 then([b],t)else([],b::t)
def isDig(b:Nat):Bool:=decide (48≤b)&&decide (b≤57)
def numOf(l:List Nat):Nat:=l.foldl (fun n b=>10*n+(b-48)) 0
def atoi(l:List Nat):Option Int:=
 if(cutSign l).2≠[]∧(cutSign l).2.all isDig=true then some (if(cutSign l).1=[45]then -(numOf (cutSign l).2:Int)else(numOf (cutSign l).2:Int))else none
end Fo
theorem ble{a b:ByteArray}(h:bl a=bl b):a=b:=by rw[←sNb a,←sNb b,h]
theorem blt(S:ByteArray)(k:Nat)(h:k≤S.size):bl (S.extract 0 k)=(bl S).take k:=by
 have:=bp S 0 k (by omega)
 simpa using this
def heI(c:Nat):List Nat→Bool
 | []=>false
 |b::_=>decide (b=c)
theorem haP(S:ByteArray)(c:UInt8)(hS:S.size≤1000000):Calls Tryz.prog 241 #[.string S,.string { data:=#[c] }] w fun e w'=>e=.returned (.bool (heI c.toNat (bl S)))∧w'=w:=by
 cases hs:bl S with
 |nil =>
  have h0:S.size=0:=by rw[←bll,hs];rfl
  have t1:decide ((1:Int)≤(S.size:Int))=false:=by rw[h0];rfl
  have hc:({ data:=#[c] }:ByteArray).size=1:=rfl
  go_enter Tryz.func241,Tryz.ntmps241
  go_wp2
  go_ret
  exact⟨rfl,rfl⟩
 |cons b t =>
  have h0:0<S.size:=by rw[←bll,hs];simp
  have t1:decide ((1:Int)≤(S.size:Int))=true:=by simp;omega
  have h1I:(1:Int)≤(S.size:Int):=by omega
  have hc:({ data:=#[c] }:ByteArray).size=1:=rfl
  have he:((S.extract 0 1).toList==({ data:=#[c] }:ByteArray).toList)=heI c.toNat (b::t):=by
   unfold heI
   rw[strEq,decide_eq_decide]
   constructor
   ·intro e
    have e2:=congrArg bl e
    rw[blt S 1 h0,hs,bo]at e2
    simpa using e2
   ·intro e
    refine ble ?_
    rw[blt S 1 h0,hs,bo]
    simp[e]
  have hl:({ data:=#[c] }:ByteArray).toList=[c]:=by rw[ByteArray.toList_eq]
  rw[hl]at he
  generalize heI c.toNat (b::t)=v at *
  go_enter Tryz.func241,Tryz.ntmps241
  go_wp2
  go_ret
  exact⟨by first | rfl | simp,rfl⟩
def IsStr(l:List Nat)(v:Value):Prop:=v=.string (strN l)
theorem iSo{S:ByteArray}{l:List Nat}(h:bl S=l):IsStr l (.string S):=by rw[IsStr,←h,sNb]
theorem cSo(S:ByteArray)(hS:S.size≤1000000):Calls Tryz.prog 327 #[.string S] w fun e w'=>(∃ a b,e=.returned (.tuple #[a,b])∧IsStr (Fo.cutSign (bl S)).1 a∧IsStr (Fo.cutSign (bl S)).2 b)∧∃ m,w'=w.drewN m:=by
 have H43:=hide (fun W=>haP (w:=W) S 43 hS)
 have H45:=hide (fun W=>haP (w:=W) S 45 hS)
 rw[show(UInt8.toNat 43)=43 from rfl]at H43
 rw[show(UInt8.toNat 45)=45 from rfl]at H45
 cases hs:bl S with
 |nil =>
  rw[hs]at H43 H45
  have HE0:Hid (S={ data:=#[] }):=ble (by rw[hs];rfl)
  simp only[heI]at H43 H45
  go_enter Tryz.func327,Tryz.ntmps327
  go_wp2_with fail
  refine(H43.o _).mono ?_
  rintro e w' ⟨rfl,rfl⟩
  go_wp2_with fail
  refine(H45.o _).mono ?_
  rintro e w' ⟨rfl,rfl⟩
  go_wp2_with fail
  go_ret2
  exact⟨⟨_,_,rfl,rfl,by rw[HE0.o];rfl⟩,0,rfl⟩
 |cons b t =>
  rw[hs]at H43 H45
  simp only[heI]at H43 H45
  have h0:0<S.size:=by rw[←bll,hs];simp
  have h1I:(1:Int)≤(S.size:Int):=by omega
  have e1:IsStr [b] (.string (S.extract 0 1)):=iSo (by rw[blt S 1 h0,hs];rfl)
  have e2:IsStr t (.string (S.extract 1 S.size)):=iSo (by rw[bt_,hs];rfl)
  have e3:IsStr (b::t) (.string S):=iSo hs
  have E:=hide (And.intro e1 (And.intro e2 e3))
  clear e1 e2 e3
  by_cases h43:b=43
  ·rw[decide_eq_true h43]at H43
   have HF:Hid (Fo.cutSign (b::t)=([b],t)):=by unfold Hid;simp[Fo.cutSign,h43]
   rw[HF.o]
   clear h43 hs
   go_enter Tryz.func327,Tryz.ntmps327
   go_wp2_with fail
   refine(H43.o _).mono ?_
   rintro e w' ⟨rfl,rfl⟩
   go_wp2_with fail
   go_quiet (fail)
   go_wp2
   go_ret2
   exact⟨⟨_,_,rfl,E.o.1,E.o.2.1⟩,nq,rfl⟩
  ·rw[decide_eq_false h43]at H43
   by_cases h45:b=45
   ·rw[decide_eq_true h45]at H45
    have HF:Hid (Fo.cutSign (b::t)=([b],t)):=by unfold Hid;simp[Fo.cutSign,h45]
    rw[HF.o]
    clear h43 h45 hs
    go_enter Tryz.func327,Tryz.ntmps327
    go_wp2_with fail
    refine(H43.o _).mono ?_
    rintro e w' ⟨rfl,rfl⟩
    go_wp2_with fail
    refine(H45.o _).mono ?_
    rintro e w' ⟨rfl,rfl⟩
    go_wp2_with fail
    go_quiet (fail)
    go_wp2
    go_ret2
    exact⟨⟨_,_,rfl,E.o.1,E.o.2.1⟩,nq,rfl⟩
   ·rw[decide_eq_false h45]at H45
    have HF:Hid (Fo.cutSign (b::t)=([],b::t)):=by unfold Hid;simp[Fo.cutSign,h43,h45]
    rw[HF.o]
    clear h43 h45 hs
    go_enter Tryz.func327,Tryz.ntmps327
    go_wp2_with fail
    refine(H43.o _).mono ?_
    rintro e w' ⟨rfl,rfl⟩
    go_wp2_with fail
    refine(H45.o _).mono ?_
    rintro e w' ⟨rfl,rfl⟩
    go_wp2_with fail
    go_ret2
    exact⟨⟨_,_,rfl,rfl,E.o.2.2⟩,0,rfl⟩
end
section
namespace Fo
def takesRef(r:List Nat):Option (List Nat):=(takesWord [48] r).bind fun q=>takesWord [82] q
end Fo
variable{B bs cap:Nat}{ao:Option Addr}{data:List Nat}{x2 x3 x4:Value}{w w':World}{r q:List Nat}
theorem sRo(h:Sc B bs ao cap data x2 x3 x4 w r) :
  Calls Tryz.prog 309 #[.pointer (some ⟨bs,0,none⟩)] w (TaT B bs ao cap data x2 x3 x4 w r (Fo.takesRef r)):=by
 have c1:=h.c1
 have H0:=hide (sWo h { data:=#[48] })
 rw[bo,show(UInt8.toNat 48)=48 from rfl]at H0
 have hsuf:=hide h.suf
 have hle:=h.le
 have hln:=h.len
 obtain⟨p,hpe⟩:∃ p,data.length-r.length=p:=⟨_,rfl⟩
 rw[hpe]at c1
 have hp:p≤data.length:=by omega
 have HPE:=hide hpe
 clear h hpe
 have back:Hid (∀ W q1,Sc B bs ao cap data x2 x3 x4 W q1→Sc B bs ao cap data x2 x3 x4 (W.setCell ⟨bs,1,none⟩ (.int .i64 (p:Nat))) r):=fun W q1 hW=>by
  have:=hW.at_ p hp
  rw[←HPE.o,hsuf.o,HPE.o]at this
  exact this
 cases e0:Fo.takesWord [48] r with
 |none =>
  rw[e0]at H0
  have HE:Hid (Fo.takesRef r=none):=by unfold Hid Fo.takesRef;rw[e0];rfl
  rw[HE.o]
  clear e0
  go_enter Tryz.func309,Tryz.ntmps309
  go_wp2_with fail
  refine H0.o.mono ?_
  rintro e w1 ⟨rfl,h1,k1⟩
  have f1:=h1.fz 1
  have d1:=h1.c1
  have H1:=hide h1
  have K1:=hide k1
  clear h1 k1 c1
  go_wp2
  go_ret
  exact⟨rfl,back.o _ _ H1.o,K1.o.setCell _ _⟩
 |some q0 =>
  rw[e0]at H0
  have HE:Hid (Fo.takesRef r=Fo.takesWord [82] q0):=by unfold Hid Fo.takesRef;rw[e0];rfl
  rw[HE.o]
  clear e0
  go_enter Tryz.func309,Tryz.ntmps309
  go_wp2_with fail
  refine H0.o.mono ?_
  rintro e w1 ⟨rfl,h1,k1⟩
  have H2:=hide (sWo (show Sc B bs ao cap data x2 x3 x4 w1 q0 from h1) { data:=#[82] })
  rw[bo,show(UInt8.toNat 82)=82 from rfl]at H2
  have K1:=hide k1
  clear h1 k1 c1
  cases e1:Fo.takesWord [82] q0 with
  |none =>
   rw[e1]at H2
   have E1:=hide e1
   clear e1
   go_wp2_with fail
   refine H2.o.mono ?_
   rintro e w2 ⟨rfl,h2,k2⟩
   have f1:=h2.fz 1
   have d1:=h2.c1
   have H3:=hide h2
   have K3:=hide (K1.o.trans k2)
   clear h2 k2
   go_wp2
   go_ret
   exact⟨by rw[E1.o];rfl,by rw[E1.o];exact back.o _ _ H3.o,K3.o.setCell _ _⟩
  |some q1 =>
   rw[e1]at H2
   have E1:=hide e1
   clear e1
   go_wp2_with fail
   refine H2.o.mono ?_
   rintro e w2 ⟨rfl,h2,k2⟩
   have H3:=hide h2
   have K3:=hide (K1.o.trans k2)
   clear h2 k2
   go_wp2
   go_ret
   exact⟨by rw[E1.o];rfl,by rw[E1.o];exact H3.o,K3.o⟩
end
section
namespace Fo
def trim0(l:List Nat):List Nat:=(l.reverse.dropWhile fun b=>b==48).reverse
def whole(l:List Nat):Option Int:=if 1≤(cutSign l).2.length∧(cutSign l).2.length≤10 then atoi l else none
def real(l:List Nat):Option (Int × Nat):=
 match(cutSign l).2.dropWhile fun b=>b != 46 with
 | []=>none
 |_::b=>if 1≤max ((cutSign l).2.takeWhile fun b=>b != 46).length b.length∧max ((cutSign l).2.takeWhile fun b=>b != 46).length b.length≤9
  then(atoi ((cutSign l).1++48::(((cutSign l).2.takeWhile fun b=>b != 46)++trim0 b))).map fun n=>(n,(trim0 b).length)else none
def worded(α:Type)(r:List Nat):Option (Node α × List Nat):=
 if wordOf r=[110,117,108,108]then some (leafN α 0 0 0 [],wordRest r)
 else if wordOf r=[102,97,108,115,101]then some (leafN α 1 0 0 [],wordRest r)
 else if wordOf r=[116,114,117,101]then some (leafN α 1 1 0 [],wordRest r)
 else match whole (wordOf r)with
  |some n=>match takesRef (wordRest r)with
   |some q=>some (leafN α 9 n 0 [],q)
   |none=>some (leafN α 2 n 0 [],wordRest r)
  |none=>match real (wordOf r)with
   |some (n,p)=>some (leafN α 3 n p [],wordRest r)
   |none=>none
section
variable{α:Type}(f:List Nat→Option (α × List Nat))
def arr:Nat→List Nat→Option (List α × List Nat)
 |0,_=>none
 |m+1,r=>match takes [93] (skip r)with
  |some q=>some ([],q)
  |none=>match f (skip r)with
   |none=>none
   |some (v,q)=>(arr m q).map fun x=>(v::x.1,x.2)
def dic:Nat→List Nat→Option ((List (List Nat) × List α) × List Nat)
 |0,_=>none
 |m+1,r=>match takes [62,62] (skip r)with
  |some q=>some (([],[]),q)
  |none=>match takes [47] (skip r)with
   |none=>none
   |some q1=>match name q1 with
    |none=>none
    |some (k,q2)=>match f q2 with
     |none=>none
     |some (v,q3)=>(dic m q3).map fun x=>((k::x.1.1,v::x.1.2),x.2)
end
def value:(k:Nat)→List Nat→Option (VT k × List Nat)
 |0,_=>none
 |k+1,r=>match takes [91] (skip r)with
  |some t=>(arr (value k) (t.length+1) t).map fun x=>((⟨6,0,0,[],x.1,[],[]⟩:Node (VT k)),x.2)
  |none=>match takes [60,60] (skip r)with
   |some t=>(dic (value k) (t.length+1) t).map fun x=>((⟨7,0,0,[],x.1.2,x.1.1,[]⟩:Node (VT k)),x.2)
   |none=>match takes [60] (skip r)with
    |some t=>(hexText t).map fun x=>(leafN (VT k) 5 0 0 x.1,x.2)
    |none=>match takes [40] (skip r)with
     |some t=>(quoted t).map fun x=>(leafN (VT k) 5 0 0 x.1,x.2)
     |none=>match takes [47] (skip r)with
      |some t=>(name t).map fun x=>(leafN (VT k) 4 0 0 x.1,x.2)
      |none=>worded (VT k) r
theorem addlen{α β:Type}{o:Option (α × List Nat)}{g:α→β}{q:List Nat}{b:β}(h:(o.map fun x=>(g x.1,x.2))=some (b,q)):∃ a,o=some (a,q):=by
 cases o with
 |none=>cases h
 |some x=>obtain⟨a,q'⟩:=x;simp at h;exact⟨a,by rw[h.2]⟩
theorem maplen{α β:Type}{o:Option (α × List Nat)}{g:α × List Nat→β × List Nat}{q:List Nat}{b:β}(h:o.map g=some (b,q))(hg:∀ x,(g x).2=x.2):∃ a,o=some (a,q):=by
 cases o with
 |none=>cases h
 |some x =>
  obtain⟨a,q'⟩:=x
  have:=congrArg Prod.snd (Option.some.inj h)
  rw[hg]at this
  exact⟨a,by rw[show q=q' from this.symm]⟩
theorem nameS_len:∀(r:List Nat) (st a:Nat) (l q:List Nat),nameS st a r=some (l,q)→q.length≤r.length
 | [],st,a,l,q,h=>by
  match st,h with
  |0,h=>simp[nameS]at h;simp[h.2]
  |n+1,h=>simp[nameS]at h
 |b::r,st,a,l,q,h=>by
  match st,h with
  |0,h =>
   simp only[nameS]at h
   split at h
   ·simp at h;rw[←h.2];exact Nat.le_refl _
   ·split at h
    ·cases h
    ·split at h
     ·have:=nameS_len r 1 0 l q h;simp only[List.length_cons];omega
     ·obtain⟨l2,h2⟩:=addlen h
      have:=nameS_len r 0 0 l2 q h2;simp only[List.length_cons];omega
  |1,h =>
   simp only[nameS]at h
   split at h
   ·cases h
   ·have:=nameS_len r 2 _ l q h;simp only[List.length_cons];omega
  |n+2,h =>
   simp only[nameS]at h
   split at h
   ·cases h
   ·split at h
    ·cases h
    ·obtain⟨l2,h2⟩:=addlen h
     have:=nameS_len r 0 0 l2 q h2;simp only[List.length_cons];omega
theorem heDl:∀(r l q:List Nat),hexDigs r=some (l,q)→q.length≤r.length
 | [],l,q,h=>by cases h
 |b::r,l,q,h=>by
  simp only[hexDigs]at h
  split at h
  ·have:=heDl r l q h;simp only[List.length_cons];omega
  ·split at h
   ·simp at h;rw[←h.2];simp
   ·split at h
    ·cases h
    ·obtain⟨l2,h2⟩:=addlen h
     have:=heDl r l2 q h2;simp only[List.length_cons];omega
theorem sGl:∀(f o:Nat) (r l q:List Nat),strGo f o r=some (l,q)→q.length≤r.length
 |0,o,r,l,q,h=>by simp[strGo]at h
 |f+1,o,r,l,q,h=>by
  rw[strGo.eq_def]at h
  simp only[]at h
  cases hl:lineEnd r with
  |some q1 =>
   rw[hl]at h
   obtain⟨l2,h2⟩:=addlen h
   have:=sGl f o q1 l2 q h2
   have:=lEl hl
   omega
  |none =>
   rw[hl]at h
   cases r with
   |nil=>cases h
   |cons b t =>
    simp only[]at h
    split at h
    ·cases hb:behind t with
     |none=>rw[hb]at h;cases h
     |some x =>
      obtain⟨l1,q1⟩:=x
      rw[hb]at h
      obtain⟨l2,h2⟩:=addlen (g:=fun y=>l1++y) h
      have:=sGl f o q1 l2 q h2
      have:=bl_ hb
      simp only[List.length_cons];omega
    ·split at h
     ·obtain⟨l2,h2⟩:=addlen h
      have:=sGl f _ t l2 q h2;simp only[List.length_cons];omega
     ·split at h
      ·split at h
       ·simp at h;rw[←h.2];simp
       ·obtain⟨l2,h2⟩:=addlen h
        have:=sGl f _ t l2 q h2;simp only[List.length_cons];omega
      ·obtain⟨l2,h2⟩:=addlen h
       have:=sGl f _ t l2 q h2;simp only[List.length_cons];omega
theorem takesWord_len{s r q:List Nat}(h:takesWord s r=some q):q.length≤r.length:=by
 unfold takesWord at h
 split at h
 ·cases h;exact(woRs r).length_le
 ·cases h
theorem tRl{r q:List Nat}(h:takesRef r=some q):q.length≤r.length:=by
 unfold takesRef at h
 cases h1:takesWord [48] r with
 |none=>rw[h1]at h;cases h
 |some q1 =>
  rw[h1]at h
  have:=takesWord_len h1
  have:=takesWord_len (show takesWord [82] q1=some q from h)
  omega
theorem wRl{r:List Nat}(h:wordOf r≠[]):(wordRest r).length+1≤r.length:=by
 have h1:wordOf r++wordRest r=skip r:=List.takeWhile_append_dropWhile
 have h2:=congrArg List.length h1
 rw[List.length_append]at h2
 have h3:=skip_len r
 have:0<(wordOf r).length:=List.length_pos_iff.2 h
 omega
theorem wol{α:Type}{r q:List Nat}{V:Node α}(h:worded α r=some (V,q)):q.length+1≤r.length:=by
 by_cases hw:wordOf r=[]
 ·unfold worded at h
  rw[hw]at h
  simp[whole,real,cutSign]at h
 ·have hl:=wRl hw
  unfold worded at h
  split at h
  ·simp at h;rw[←h.2];exact hl
  ·split at h
   ·simp at h;rw[←h.2];exact hl
   ·split at h
    ·simp at h;rw[←h.2];exact hl
    ·cases hwh:whole (wordOf r)with
     |some n =>
      rw[hwh]at h
      simp only[]at h
      cases htr:takesRef (wordRest r)with
      |some q1=>rw[htr]at h;simp at h;have:=tRl htr;rw[←h.2];omega
      |none=>rw[htr]at h;simp at h;rw[←h.2];exact hl
     |none =>
      rw[hwh]at h
      simp only[]at h
      cases hre:real (wordOf r)with
      |some x=>obtain⟨n,p⟩:=x;rw[hre]at h;simp at h;rw[←h.2];exact hl
      |none=>rw[hre]at h;cases h
theorem arl{α:Type}{f:List Nat→Option (α × List Nat)}(hf:∀ r v q,f r=some (v,q)→q.length≤r.length):∀(m:Nat) (r q:List Nat) (l:List α),arr f m r=some (l,q)→q.length≤r.length
 |0,r,q,l,h=>by cases h
 |m+1,r,q,l,h=>by
  simp only[arr]at h
  have hs:=skip_len r
  cases ht:takes [93] (skip r)with
  |some q1=>rw[ht]at h;simp at h;have:=(takes_len ht).1;rw[←h.2];omega
  |none =>
   rw[ht]at h
   simp only[]at h
   cases hv:f (skip r)with
   |none=>rw[hv]at h;cases h
   |some x =>
    obtain⟨v,q1⟩:=x
    rw[hv]at h
    simp only[]at h
    obtain⟨l2,h2⟩:=maplen h (fun _=>rfl)
    have:=arl hf m q1 q l2 h2
    have:=hf _ _ _ hv
    omega
theorem dl_{α:Type}{f:List Nat→Option (α × List Nat)}(hf:∀ r v q,f r=some (v,q)→q.length≤r.length):∀(m:Nat) (r q:List Nat) (l:List (List Nat) × List α),dic f m r=some (l,q)→q.length≤r.length
 |0,r,q,l,h=>by cases h
 |m+1,r,q,l,h=>by
  simp only[dic]at h
  have hs:=skip_len r
  cases ht:takes [62,62] (skip r)with
  |some q1=>rw[ht]at h;simp at h;have:=(takes_len ht).1;rw[←h.2];omega
  |none =>
   rw[ht]at h
   simp only[]at h
   cases h47:takes [47] (skip r)with
   |none=>rw[h47]at h;cases h
   |some q1 =>
    rw[h47]at h
    simp only[]at h
    have l1:=(takes_len h47).1
    cases hn:name q1 with
    |none=>rw[hn]at h;cases h
    |some x =>
     obtain⟨k,q2⟩:=x
     rw[hn]at h
     simp only[]at h
     have l2:=nameS_len q1 0 0 k q2 hn
     cases hv:f q2 with
     |none=>rw[hv]at h;cases h
     |some y =>
      obtain⟨v,q3⟩:=y
      rw[hv]at h
      simp only[]at h
      obtain⟨l3,h3⟩:=maplen h (fun _=>rfl)
      have:=dl_ hf m q3 q l3 h3
      have:=hf _ _ _ hv
      omega
theorem value_len:∀{k:Nat} {r q:List Nat} {V:VT k},value k r=some (V,q)→q.length+1≤r.length
 |0,r,q,V,h=>by cases h
 |k+1,r,q,V,h=>by
  have hf:∀ r v q,value k r=some (v,q)→q.length≤r.length:=fun r v q h=>by have:=value_len h;omega
  simp only[value]at h
  have hs:=skip_len r
  cases h1:takes [91] (skip r)with
  |some t =>
   rw[h1]at h
   simp only[]at h
   obtain⟨l2,h2⟩:=maplen h (fun _=>rfl)
   have:=arl hf _ t q l2 h2
   have:=(takes_len h1).1
   simp only[List.length_cons,List.length_nil]at this;omega
  |none =>
   rw[h1]at h
   simp only[]at h
   cases h3:takes [60,60] (skip r)with
   |some t =>
    rw[h3]at h
    simp only[]at h
    obtain⟨l2,h2⟩:=maplen h (fun _=>rfl)
    have:=dl_ hf _ t q l2 h2
    have:=(takes_len h3).1
    simp only[List.length_cons,List.length_nil]at this;omega
   |none =>
    rw[h3]at h
    simp only[]at h
    cases h4:takes [60] (skip r)with
    |some t =>
     rw[h4]at h
     simp only[]at h
     obtain⟨l2,h2⟩:=maplen h (fun _=>rfl)
     obtain⟨l5,h5⟩:=maplen h2 (fun _=>rfl)
     have:=heDl t l5 q h5
     have:=(takes_len h4).1
     simp only[List.length_cons,List.length_nil]at this;omega
    |none =>
     rw[h4]at h
     simp only[]at h
     cases h6:takes [40] (skip r)with
     |some t =>
      rw[h6]at h
      simp only[]at h
      obtain⟨l2,h2⟩:=maplen h (fun _=>rfl)
      have:=sGl _ _ t l2 q h2
      have:=(takes_len h6).1
      simp only[List.length_cons,List.length_nil]at this;omega
     |none =>
      rw[h6]at h
      simp only[]at h
      cases h7:takes [47] (skip r)with
      |some t =>
       rw[h7]at h
       simp only[]at h
       obtain⟨l2,h2⟩:=maplen h (fun _=>rfl)
       have:=nameS_len t 0 0 l2 q h2
       have:=(takes_len h7).1
       simp only[List.length_cons,List.length_nil]at this;omega
      |none =>
       rw[h7]at h
       exact wol (α:=VT k) h
theorem sCs:∀(b:Bool) (r:List Nat),(∀ x t,skipC b r=x::t→whB x=false∧x≠37)
 |b,[],x,t,h=>by cases b<;>cases h
 |false,y::r,x,t,h=>by
  simp only[skipC]at h
  by_cases h1:whB y=true
  ·rw[if_pos h1]at h;exact sCs false r x t h
  ·rw[if_neg h1]at h
   by_cases h2:y=37
   ·rw[if_pos h2]at h;exact sCs true r x t h
   ·rw[if_neg h2]at h;cases h
    exact⟨by simpa using h1,h2⟩
 |true,y::r,x,t,h=>by
  simp only[skipC]at h
  by_cases h1:y=10∨y=13
  ·rw[if_pos h1]at h;exact sCs false r x t h
  ·rw[if_neg h1]at h;exact sCs true r x t h
theorem skip_skip(r:List Nat):skip (skip r)=skip r:=by
 cases h:skip r with
 |nil=>rfl
 |cons x t =>
  obtain⟨h1,h2⟩:=sCs false r x t h
  exact skip_stop h1 h2
theorem wOs(r:List Nat):wordOf (skip r)=wordOf r:=by unfold wordOf;rw[skip_skip]
theorem wRs(r:List Nat):wordRest (skip r)=wordRest r:=by unfold wordRest;rw[skip_skip]
theorem worded_skip(α:Type)(r:List Nat):worded α (skip r)=worded α r:=by unfold worded;rw[wOs,wRs]
end Fo
end
end Go.Proofs.YtgkljcmjnphpeaaGreatDoor
namespace Go
section
section
variable{P:Program}{w:World}
theorem raw(base:Nat)(t ty e:TypeId)(i:TypeInfo)(z:Value)(size bytes:Nat)(ht:P.underlying t=some (.slice e))(hi:P.info? e=some i)(hz:i.zero=some z)
  (hsize:i.size=size) (hby:i.bytes=bytes) (hzs:z.cells.size=size) (hsz:0<size)
  (v:Value) (n:Nat) (xs:List Value) (hown:w.ownsRow base e size v n xs)
  (a:Addr) (m c:Nat) (news:List Value) (hl:news.length=m*size) (hnews:∀ j u,news[j]?=some u→w.cell? (a.add j)=some u) (h1:∀ u∈news,u.oneCell'=true)
  (h63:n+m≤maxLen) (hbytes:(n+m)*bytes≤140737488355328) (hbase:base≤w.heap.size) :
  ∃ v' w',(Builtin.append_ #[t,t] ty #[v,.slice (some a) m c]).run P w=.ok v' w'∧w'.ownsRow base e size v' (n+m) (xs++news)∧w.grownBy w' v.ownBlock ∧
   (∀ g,v'.ownBlock=some g→v.ownBlock=some g∨w.heap.size≤g):=by
 obtain⟨v',w',hr,h2,h3,_⟩:=run_append_own (P:=P) w base t ty e i z size bytes ht hi hz hsize hby hzs hsz v n xs hown a m c news hl hnews h1 h63 hbytes hbase
 refine⟨v',w',hr,h2,h3,?_⟩
 have hsmall:n+m≤9223372036854775807:=by simp only[maxLen]at h63;omega
 intro g hg
 rcases hown.2 with⟨rfl,rfl⟩ | ⟨g',cap',cur,rfl,_,hgg,_,_,hcs,_⟩
 ·have hxs:xs=[]:=List.eq_nil_of_length_eq_zero (by rw[hown.1];omega)
  subst hxs
  obtain⟨v2,w2,hr2,k2,_⟩:=run_append_own (P:=P) w w.heap.size t ty e i z size bytes ht hi hz hsize hby hzs hsz (.slice none 0 0) 0 [] (World.ownsRow_nil _ _ _ _) a m c news hl hnews h1 h63 hbytes (Nat.le_refl _)
  rw[hr]at hr2
  injection hr2 with e1 e2
  subst e1
  exact Or.inr (k2.lt g hg).1
 ·subst hsize
  by_cases hroom:n+m≤cap'
  ·have hfit:n*i.size+news.length≤cur.size:=by rw[hl,hcs,←Nat.add_mul];exact Nat.mul_le_mul_right _ hroom
   have hr2:=run_append_room (P:=P) w t ty e i ht hi g' n cap' cur hgg a m c news hl hnews h1 hroom hfit
   rw[hr]at hr2
   injection hr2 with e1 e2
   subst e1
   exact Or.inl hg
  ·subst hby
   have holds:∀ j u,xs[j]?=some u→w.cell? ((⟨g',0,none⟩:Addr).add j)=some u:=hown.cells (g:=g') rfl
   have hr2:=run_append_grow (P:=P) w t ty e i z ht hi hz ⟨g',0,none⟩ n cap' xs hown.1 holds a m c news hl hnews (by omega) (by omega) (growslice_fits (by omega) hbytes)
   rw[hr]at hr2
   injection hr2 with e1 e2
   subst e1
   simp[Value.ownBlock]at hg
   exact Or.inr (by omega)
theorem saw{ops:Array Oper}{o:Oper}{a:Act}{K:Act→World→Prop}{Q:Exit→Act→World→Prop}{E:Prop}(hgd:o.guard=none)(s x:Operand)(t:TypeId)
  (ho:o.op=.call { callee:=.builtin .append,args:=#[s,x],argTypes:=#[t,t] })
  (base:Nat) (e:TypeId) (i:TypeInfo) (z:Value) (size bytes:Nat) (ht:P.underlying t=some (.slice e)) (hi:P.info? e=some i) (hz:i.zero=some z)
  (hsize:i.size=size) (hby:i.bytes=bytes) (hzs:z.cells.size=size) (hsz:0<size)
  (v:Value) (n:Nat) (xs:List Value) (hs:a.eval s=v) (hown:w.ownsRow base e size v n xs)
  (ad:Addr) (m c:Nat) (news:List Value) (hx:a.eval x=.slice (some ad) m c) (hl:news.length=m*size) (hnews:∀ j u,news[j]?=some u→w.cell? (ad.add j)=some u) (h1:∀ u∈news,u.oneCell'=true)
  (h63:n+m≤maxLen) (hbytes:(n+m)*bytes≤140737488355328) (hbase:base≤w.heap.size)
  (h:∀ v' w',w'.ownsRow base e size v' (n+m) (xs++news)→w.grownBy w' v.ownBlock→(∀ g,v'.ownBlock=some g→v.ownBlock=some g∨w.heap.size≤g)→K (a.put o.dst v') w') :
  if Region.wanted o (yielded ops a.tmps)=true then Oper.wp P o a w K Q else E:=by
 have hw:Region.wanted o (yielded ops a.tmps)=true:=by simp[Region.wanted,hgd]
 rw[if_pos hw]
 obtain⟨v',w',hr,h2,h3,h4⟩:=raw (P:=P) (w:=w) base t o.type e i z size bytes ht hi hz hsize hby hzs hsz v n xs hown ad m c news hl hnews h1 h63 hbytes hbase
 unfold Oper.wp execOp
 simp only[ho,resolve,invoke,builtin,Sem.run_bind,Sem.run_pure,Result.andThen_ok,List.map_toArray,List.map_cons,List.map_nil,hs,hx,hr]
 exact h v' w' h2 h3 h4
end
end
end Go
