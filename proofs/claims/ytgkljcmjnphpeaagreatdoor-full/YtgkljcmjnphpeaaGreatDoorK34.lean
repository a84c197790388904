import Derived.Test.YtgkljcmjnphpeaaGreatDoorK04
import Derived.Laws.AppendOwnNone
set_option linter.unusedVariables false
set_option linter.unusedSimpArgs false
namespace Go
section
open Go.RowKit
section
variable{P:Program}{w:World}
theorem raz(t tx ty e:TypeId)(i:TypeInfo)(z:Value)(kd:IntKind)(size bytes:Nat)(ht:P.underlying t=some (.slice e))(htx:P.underlying tx=some (.int kd))(hi:P.info? e=some i)(hz:i.zero=some z)(hsize:i.size=size)(hby:i.bytes=bytes)(hzs:z.cells.size=size)(hsz:0<size)
  (m:Nat) (hm:0<m) (h63:m≤maxLen) (hbytes:m*bytes≤140737488355328) :
  ∃ c w',(Builtin.append_ #[t,tx] ty #[.slice none 0 0,.int .i64 (m:Nat)]).run P w=.ok (.slice (some ⟨w.heap.size,0,none⟩) m c) w'∧w'.ownsRow w.heap.size e size (.slice (some ⟨w.heap.size,0,none⟩) 0 c) 0 []∧Below w.heap.size w w'∧m≤c:=by
 subst hsize hby
 have hsmall:m≤9223372036854775807:=by simp only[maxLen]at h63;omega
 have hge:=grownCap_ge w m 0 e
 have hcm:=grownCap_le_maxLen w m 0 e h63
 have hfit:=growslice_fits (need:=m) (old:=0) (bytes:=i.bytes) (by omega) hbytes
 have h1:¬ (281474976710656<(m:Int)*(i.bytes:Int)):=by omega
 have h2:¬ (281474976710656<Builtin.nextslicecap m 0*i.bytes):=by omega
 have h3:¬ (m*i.size=0):=by
  have:=Nat.mul_pos hm hsz
  omega
 have h0:m≠0:=by omega
 have h4:¬ (9223372036854775807<(m:Int)):=by omega
 have h5:¬ ((m:Int)<0):=by omega
 have hw:IntKind.i64.wrap (m:Int)=(m:Int):=by rw[IntKind.wrap_i64];omega
 have ha:∀ w':World,(asInt (.int .i64 (m:Int))).run P w'=.ok (m:Int) w':=fun _=>rfl
 refine⟨grownCap w m 0 e,w.drew.alloc (.cells (Builtin.zeroCells z.cells m++Builtin.zeroCells z.cells (grownCap w m 0 e-m)) e),?_,⟨by simp,.inr ⟨w.heap.size,_,_,rfl,Nat.le_refl _,heap_alloc_new w.drew _,Nat.zero_le _,hcm,?_,by simp⟩⟩,(Below.refl _ _).drew.alloc (Nat.le_refl _) _,hge⟩
 ·simp[Builtin.append_,run_underlying ht,run_underlying htx,sizeOf,typeInfo,zeroValue,hi,hz,ha,run_firstCells_none,hw,h0,h1,h2,h3,h4,h5,Question.forced,newRow,grownCap,hsmall]
 ·simp only[Array.size_append,size_zeroCells,hzs]
  rw[←Nat.add_mul]
  congr 1
  omega
theorem wLaz{ops:Array Oper}{rest:List Oper}{o:Oper}{a:Act}{Q:Exit→Act→World→Prop}(hgd:o.guard=none)(s x:Operand)(t tx:TypeId)
  (ho:o.op=.call { callee:=.builtin .append,args:=#[s,x],argTypes:=#[t,tx] })
  (e:TypeId) (i:TypeInfo) (z:Value) (kd:IntKind) (size bytes:Nat) (ht:P.underlying t=some (.slice e)) (htx:P.underlying tx=some (.int kd)) (hi:P.info? e=some i) (hz:i.zero=some z) (hsize:i.size=size) (hby:i.bytes=bytes) (hzs:z.cells.size=size) (hsz:0<size)
  (hv:a.eval s=.slice none 0 0) (m:Nat) (hx:a.eval x=.int .i64 (m:Nat)) (hm:0<m) (h63:m≤maxLen) (hbytes:m*bytes≤140737488355328)
  (h:∀ c w',w'.ownsRow w.heap.size e size (.slice (some ⟨w.heap.size,0,none⟩) 0 c) 0 []→Below w.heap.size w w'→m≤c→wpList P ops Q rest (a.put o.dst (.slice (some ⟨w.heap.size,0,none⟩) m c)) w'):wpList P ops Q (o::rest) a w:=by
 refine wpList_plain hgd fun K hK=>?_
 obtain⟨c,w',hrun,r1,r2,r3⟩:=raz (P:=P) (w:=w) t tx o.type e i z kd size bytes ht htx hi hz hsize hby hzs hsz m hm h63 hbytes
 unfold Oper.wp
 simp[execOp,ho,resolve,invoke,builtin,hv,hx,hrun,Result.andThen]
 exact hK _ _ (h c w' r1 r2 r3)
theorem wLar{ops:Array Oper}{rest:List Oper}{o:Oper}{a:Act}{Q:Exit→Act→World→Prop}(hgd:o.guard=none)(s x:Operand)(t:TypeId)
  (ho:o.op=.call { callee:=.builtin .append,args:=#[s,x],argTypes:=#[t,t] })
  (base:Nat) (e:TypeId) (i:TypeInfo) (z:Value) (size bytes:Nat) (ht:P.underlying t=some (.slice e)) (hi:P.info? e=some i) (hz:i.zero=some z)
  (hsize:i.size=size) (hby:i.bytes=bytes) (hzs:z.cells.size=size) (hsz:0<size)
  (v:Value) (n:Nat) (xs:List Value) (hs:a.eval s=v) (hown:w.ownsRow base e size v n xs)
  (u:Value) (m:Nat) (ys:List Value) (hx:a.eval x=u) (hu:w.ownsRow 0 e size u m ys) (h1:∀ y∈ys,y.oneCell'=true)
  (h63:n+m≤maxLen) (hbytes:(n+m)*bytes≤140737488355328) (hbase:base≤w.heap.size)
  (h:∀ v' w',w'.ownsRow base e size v' (n+m) (xs++ys)→w.grownBy w' v.ownBlock→wpList P ops Q rest (a.put o.dst v') w'):wpList P ops Q (o::rest) a w:=by
 rcases hu.2 with⟨rfl,rfl⟩ | ⟨g,c,cur,rfl,_,hg,hnc,hcm,hcs,htake⟩
 ·have hy:ys=[]:=List.eq_nil_of_length_eq_zero (by rw[hu.1];omega)
  subst hy
  refine wpList_append_own_none hgd s x t ho base e i size ht hi v n xs hs hown hx (h v w ?_ ⟨rfl,rfl,rfl,Nat.le_refl _,fun _ _ _=>rfl⟩)
  rw[List.append_nil]
  exact hown
 ·exact wpList_append_own _ hgd s x t ho base e i z size bytes ht hi hz hsize hby hzs hsz v n xs hs hown ⟨g,0,none⟩ m c ys hx hu.1 (hu.cells (g:=g) rfl) h1 h63 hbytes hbase (fun v' w' r1 r2 _=>h v' w' r1 r2)
end
theorem sc_{P:Program}{w:World}{ops:Array Oper}{o:Oper}{a:Act}{K:Act→World→Prop}{Q:Exit→Act→World→Prop}{E:Prop}(hgd:o.guard=none)(x:Operand)(f:FuncId)(t:TypeId)
  (ho:o.op=.call { callee:=.value (.func f),args:=#[x],argTypes:=#[t] }) (u v:Value) (hx:a.eval x=u) (he:∀ args w,(callFunc f args).run P w=.ok (.enter f args) w)
  (hc:Calls P f #[u] w fun e w'=>e=.returned v∧w'=w) (h:K (a.put o.dst v) w):if Region.wanted o (yielded ops a.tmps)=true then Oper.wp P o a w K Q else E:=by
 have hw:Region.wanted o (yielded ops a.tmps)=true:=by simp[Region.wanted,hgd]
 rw[if_pos hw]
 have hr:(execOp a.eval o).run P w=.ok (.enter f #[u]) w:=by
  have hf:a.eval (.func f)=.func (.func f) #[] #[]:=rfl
  unfold execOp
  simp[ho,resolve,Deferred.ofValue,invoke,hx,hf,he]
 unfold Oper.wp
 rw[hr,Oper.upon_enter]
 refine hc.mono ?_
 rintro e w' ⟨rfl,rfl⟩
 exact h
end
end Go
