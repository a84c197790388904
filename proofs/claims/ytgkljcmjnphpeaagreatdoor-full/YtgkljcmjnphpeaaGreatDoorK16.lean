import Derived.Test.YtgkljcmjnphpeaaGreatDoorK15
set_option linter.unusedVariables false
set_option linter.unusedSimpArgs false
namespace Go.Proofs.YtgkljcmjnphpeaaGreatDoor
open Go.RowKit
namespace Fo
theorem al{α:Type}{f:List Nat→Option (α × List Nat)}(hf:∀ r v q,f r=some (v,q)→q.length+1≤r.length):∀(m:Nat) (r q:List Nat) (l:List α),arr f m r=some (l,q)→l.length+q.length≤r.length
 |0,r,q,l,h=>by cases h
 |m+1,r,q,l,h=>by
  simp only[arr]at h
  have hs:=skip_len r
  cases ht:takes [93] (skip r)with
  |some q1=>rw[ht]at h;simp at h;have:=(takes_len ht).1;rw[h.1,←h.2];simp;omega
  |none =>
   rw[ht]at h
   simp only[]at h
   cases hv:f (skip r)with
   |none=>rw[hv]at h;cases h
   |some y =>
    obtain⟨v,q3⟩:=y
    rw[hv]at h
    simp only[]at h
    cases hd:arr f m q3 with
    |none=>rw[hd]at h;cases h
    |some z =>
     obtain⟨z,q4⟩:=z
     rw[hd]at h
     simp at h
     have ih:=al hf m q3 q4 z hd
     have:=hf _ _ _ hv
     obtain⟨h1,h2⟩:=h
     subst h1;subst h2
     simp only[List.length_cons]
     omega
theorem ara{α:Type}{f:List Nat→Option (α × List Nat)}{Q:α→Prop}{M:Nat}(hl:∀ r v q,f r=some (v,q)→q.length≤r.length)(hf:∀ r v q,f r=some (v,q)→r.length≤M→Q v):∀(m:Nat) (r q:List Nat) (l:List α),arr f m r=some (l,q)→r.length≤M→∀ y∈l,Q y
 |0,r,q,l,h,_=>by cases h
 |m+1,r,q,l,h,hM=>by
  simp only[arr]at h
  have hs:=skip_len r
  cases ht:takes [93] (skip r)with
  |some q1=>rw[ht]at h;simp at h;rw[h.1];intro y hy;cases hy
  |none =>
   rw[ht]at h
   simp only[]at h
   cases hv:f (skip r)with
   |none=>rw[hv]at h;cases h
   |some y =>
    obtain⟨v,q3⟩:=y
    rw[hv]at h
    simp only[]at h
    cases hd:arr f m q3 with
    |none=>rw[hd]at h;cases h
    |some z =>
     obtain⟨z,q4⟩:=z
     rw[hd]at h
     simp at h
     have h3:=hl _ _ _ hv
     have ih:=ara hl hf m q3 q4 z hd (by omega)
     have:=hf _ _ _ hv (by omega)
     obtain⟨h1,h2⟩:=h
     subst h1
     intro y hy
     rcases List.mem_cons.1 hy with rfl | hy
     ·exact this
     ·exact ih y hy
theorem dia{α:Type}{f:List Nat→Option (α × List Nat)}{Q:α→Prop}{M:Nat}(hl:∀ r v q,f r=some (v,q)→q.length≤r.length)(hf:∀ r v q,f r=some (v,q)→r.length≤M→Q v):∀(m:Nat) (r q:List Nat) (l:List (List Nat) × List α),dic f m r=some (l,q)→r.length≤M→∀ y∈l.2,Q y
 |0,r,q,l,h,_=>by cases h
 |m+1,r,q,l,h,hM=>by
  simp only[dic]at h
  have hs:=skip_len r
  cases ht:takes [62,62] (skip r)with
  |some q1=>rw[ht]at h;simp at h;rw[←h.1];intro y hy;cases hy
  |none =>
   rw[ht]at h
   simp only[]at h
   cases h47:takes [47] (skip r)with
   |none=>rw[h47]at h;cases h
   |some q1 =>
    rw[h47]at h
    simp only[]at h
    have l1:=(takes_len h47).1
    cases hn:name q1 with
    |none=>rw[hn]at h;cases h
    |some x =>
     obtain⟨k,q2⟩:=x
     rw[hn]at h
     simp only[]at h
     have l2:=nameS_len q1 0 0 k q2 hn
     cases hv:f q2 with
     |none=>rw[hv]at h;cases h
     |some y =>
      obtain⟨v,q3⟩:=y
      rw[hv]at h
      simp only[]at h
      cases hd:dic f m q3 with
      |none=>rw[hd]at h;cases h
      |some z =>
       obtain⟨z,q4⟩:=z
       rw[hd]at h
       simp at h
       have h3:=hl _ _ _ hv
       have ih:=dia hl hf m q3 q4 z hd (by omega)
       have:=hf _ _ _ hv (by omega)
       obtain⟨h1,h2⟩:=h
       subst h1
       intro y hy
       rcases List.mem_cons.1 hy with rfl | hy
       ·exact this
       ·exact ih y hy
end Fo
def Made(M:Nat):{k:Nat}→VT k→Prop
 |0,_=>True
 |_+1,V=>(Node.items V).length≤M∧(Node.keys V).length≤M∧(Node.kind V=7→(Node.keys V).length=(Node.items V).length)∧Node.kind V≠8∧(Node.filters V)=[]∧∀ y∈Node.items V,Made M y
theorem Made.leaf(M k kind:Nat)(n:Int)(places:Nat)(text:List Nat)(h:kind≠8):Made M (k:=k+1) (leafN (VT k) kind n places text):=
 ⟨Nat.zero_le _,Nat.zero_le _,fun _=>rfl,h,rfl,fun y hy=>by cases hy⟩
theorem Made.few:∀{k:Nat} {V:VT k},Made 200000 V→Few V
 |0,_,_=>trivial
 |k+1,V,h=>⟨h.1,h.2.1,fun y hy=>Made.few (h.2.2.2.2.2 y hy)⟩
namespace Fo
theorem value_made{M:Nat}:∀{k:Nat} {r q:List Nat} {V:VT k},value k r=some (V,q)→r.length≤M→Made M V
 |0,r,q,V,h,_=>by cases h
 |k+1,r,q,V,h,hM=>by
  have hl1:∀ r v q,value k r=some (v,q)→q.length+1≤r.length:=fun r v q h=>value_len h
  have hl:∀ r v q,value k r=some (v,q)→q.length≤r.length:=fun r v q h=>by have:=value_len h;omega
  have hf:∀ r v q,value k r=some (v,q)→r.length≤M→Made M v:=fun r v q h hr=>value_made h hr
  simp only[value]at h
  have hs:=skip_len r
  cases h1:takes [91] (skip r)with
  |some t =>
   rw[h1]at h
   simp only[]at h
   have ht:=(takes_len h1).1
   cases h2:arr (value k) (t.length+1) t with
   |none=>rw[h2]at h;cases h
   |some x =>
    rw[h2]at h
    obtain⟨l,q2⟩:=x
    have a1:=al hl1 _ _ _ _ h2
    have a2:=ara hl hf _ _ _ _ h2 (by omega)
    cases h
    exact⟨by show l.length≤M;omega,Nat.zero_le _,fun h=>(by cases h),by show 6≠8;decide,rfl,a2⟩
  |none =>
   rw[h1]at h
   simp only[]at h
   cases h3:takes [60,60] (skip r)with
   |some t =>
    rw[h3]at h
    simp only[]at h
    have ht:=(takes_len h3).1
    cases h2:dic (value k) (t.length+1) t with
    |none=>rw[h2]at h;cases h
    |some x =>
     rw[h2]at h
     obtain⟨⟨ks,l⟩,q2⟩:=x
     have a1:=dic_lens hl1 _ _ _ _ h2
     have a2:=dia hl hf _ _ _ _ h2 (by omega)
     simp only[]at a1
     cases h
     exact⟨by show l.length≤M;omega,by show ks.length≤M;omega,fun _=>a1.1,by show 7≠8;decide,rfl,a2⟩
   |none =>
    rw[h3]at h
    simp only[]at h
    cases h4:takes [60] (skip r)with
    |some t =>
     rw[h4]at h
     simp only[]at h
     cases h2:hexText t with
     |none=>rw[h2]at h;cases h
     |some x=>rw[h2]at h;cases h;exact Made.leaf _ _ _ _ _ _ (by decide)
    |none =>
     rw[h4]at h
     simp only[]at h
     cases h6:takes [40] (skip r)with
     |some t =>
      rw[h6]at h
      simp only[]at h
      cases h2:quoted t with
      |none=>rw[h2]at h;cases h
      |some x=>rw[h2]at h;cases h;exact Made.leaf _ _ _ _ _ _ (by decide)
     |none =>
      rw[h6]at h
      simp only[]at h
      cases h7:takes [47] (skip r)with
      |some t =>
       rw[h7]at h
       simp only[]at h
       cases h2:name t with
       |none=>rw[h2]at h;cases h
       |some x=>rw[h2]at h;cases h;exact Made.leaf _ _ _ _ _ _ (by decide)
      |none =>
       rw[h7]at h
       simp only[]at h
       unfold worded at h
       split at h
       ·cases h;exact Made.leaf _ _ _ _ _ _ (by decide)
       ·split at h
        ·cases h;exact Made.leaf _ _ _ _ _ _ (by decide)
        ·split at h
         ·cases h;exact Made.leaf _ _ _ _ _ _ (by decide)
         ·split at h
          ·split at h
           ·cases h;exact Made.leaf _ _ _ _ _ _ (by decide)
           ·cases h;exact Made.leaf _ _ _ _ _ _ (by decide)
          ·split at h
           ·cases h;exact Made.leaf _ _ _ _ _ _ (by decide)
           ·cases h
def stream{k:Nat}(V:Node (VT k))(r:List Nat):Option ((Node (VT k) × List Nat) × List Nat):=
 match(takes [10] r).or (takes [13,10] r)with
 |none=>none
 |some q=>match itemOf { data:=#[76,101,110,103,116,104] } 2 V with
  |none=>none
  |some y=>if 0≤nOf y∧nOf y≤(q.length:Int)then
    match takes [10] (q.drop (nOf y).toNat)with
    |none=>none
    |some t=>if t.takeWhile pB=[101,110,100,115,116,114,101,97,109]then
      match streamOf V with
      |none=>none
      |some S=>some ((S,q.take (nOf y).toNat),t.dropWhile pB)
     else none
   else none
def objVal(r:List Nat):Option ((VT 12 × List Nat) × List Nat):=match value 12 r with
 |none=>none
 |some (V,q)=>if Node.kind (α:=VT 11) V=7 then
   match takesWord [115,116,114,101,97,109] q with
   |some t=>stream (k:=11) V t
   |none=>some ((V,[]),q)
  else some ((V,[]),q)
def object(n:Nat)(r:List Nat):Option ((VT 12 × List Nat) × List Nat):=
 match takesWord (dec n) r with
 |none=>none
 |some q1=>match takesWord [48] q1 with
  |none=>none
  |some q2=>match takesWord [111,98,106] q2 with
   |none=>none
   |some q3=>match objVal q3 with
    |none=>none
    |some (x,q4)=>match takesWord [101,110,100,111,98,106] q4 with
     |none=>none
     |some q5=>some (x,q5)
theorem stream_len{k:Nat}{V:Node (VT k)}{r q:List Nat}{x:Node (VT k) × List Nat}(h:stream V r=some (x,q)):q.length≤r.length:=by
 unfold stream at h
 split at h
 ·cases h
 ·next q1 e1 =>
  have h1:q1.length≤r.length:=by
   cases e2:takes [10] r with
   |some z=>rw[e2]at e1;cases e1;have:=(takes_len e2).1;omega
   |none=>rw[e2]at e1;have:=(takes_len (s:=[13,10]) (by simpa using e1)).1;omega
  split at h
  ·cases h
  ·split at h
   ·split at h
    ·cases h
    ·next t e3 =>
     have h3:=(takes_len e3).1
     rw[List.length_drop]at h3
     split at h
     ·split at h
      ·cases h
      ·cases h
       have:=dropWhile_len (p:=pB) t
       omega
     ·cases h
   ·cases h
theorem oVl{r q:List Nat}{x:VT 12 × List Nat}(h:objVal r=some (x,q)):q.length+1≤r.length:=by
 unfold objVal at h
 split at h
 ·cases h
 ·next V q1 e1 =>
  have h1:=value_len e1
  split at h
  ·split at h
   ·next t e2 =>
    have h2:=takesWord_len e2
    have h3:=stream_len h
    omega
   ·cases h;exact h1
  ·cases h;exact h1
theorem object_len{n:Nat}{r q:List Nat}{x:VT 12 × List Nat}(h:object n r=some (x,q)):q.length+1≤r.length:=by
 unfold object at h
 split at h
 ·cases h
 ·next q1 e1 =>
  split at h
  ·cases h
  ·next q2 e2 =>
   split at h
   ·cases h
   ·next q3 e3 =>
    split at h
    ·cases h
    ·next y q4 e4 =>
     split at h
     ·cases h
     ·next q5 e5 =>
      cases h
      have:=takesWord_len e1
      have:=takesWord_len e2
      have:=takesWord_len e3
      have:=oVl e4
      have:=takesWord_len e5
      omega
end Fo
end Go.Proofs.YtgkljcmjnphpeaaGreatDoor
