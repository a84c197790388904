import Derived.Test.YtgkljcmjnphpeaaGreatDoorK17
set_option linter.unusedVariables false
set_option linter.unusedSimpArgs false
set_option maxHeartbeats 4000000
set_option maxRecDepth 100000
namespace Go.Proofs.YtgkljcmjnphpeaaGreatDoor
open Go.RowKit
section
variable{w w':World}
theorem sNsX(l:List Nat):(strN l).size=l.length:=by
 unfold strN
 show(l.map UInt8.ofNat).toArray.size=_
 simp
theorem siz{tt:ByteArray}(h:tt.size=0):tt={ data:=#[] }:=ByteArray.ext (Array.eq_empty_of_size_eq_zero h)
def bareB(a b c:Bool)(s:Nat):Bool:=a&&b&&c&&decide (s=0)
theorem bare_0(nn:Int)(pp:Nat)(tt:ByteArray)(ia:Option Addr)(il ic:Nat)(ka:Option Addr)(kl kc:Nat)(fa:Option Addr)(fl fc:Nat)(w:World)(b1:il≤200000)(b2:kl≤200000)(b3:fl≤200000) :
  Calls Tryz.prog 176 #[.agg #[.int .i64 (0:Int),.int .i64 nn,.int .i64 (pp:Int),.string tt,.slice ia il ic,.slice ka kl kc,.slice fa fl fc]] w fun e w'=>e=.returned (.bool (bareB (decide (nn=0)) (decide (pp=0)) (decide (tt.size=0)) (il+kl+fl)))∧Below w.heap.size w w':=by
 have HB:Hid (∀ cs:Array Value,Below w.heap.size w (w.alloc (.cells cs 67))):=fun cs=>(Below.refl _ _).alloc (Nat.le_refl _) _
 obtain⟨R,hR⟩:∃ R,(bareB (decide (nn=0)) (decide (pp=0)) (decide (tt.size=0)) (il+kl+fl))=R:=⟨_,rfl⟩
 rw[hR]
 by_cases hn:nn=0
 ·subst hn
  by_cases hp:pp=0
  ·subst hp
   by_cases ht:tt.size=0
   ·have ht2:=siz ht;clear ht;subst ht2
    have HR:Hid (R=decide (il+kl+fl=0)):=by unfold Hid;rw[←hR];rfl
    clear hR
    go_enter Tryz.func176,Tryz.ntmps176
    go_wp2
    go_ret
    refine⟨?_,HB.o _⟩
    rw[HR.o]
    first
     |rfl
     | (show Ending.returned (Value.bool ((il:Int)+(kl:Int)+(fl:Int)==0))=_;congr 2;rw[Bool.eq_iff_iff];simp;try omega)
   ·have tt1:(tt.toList==[])=false:=by rw[strK,decide_eq_false_iff_not];intro e;rw[e]at ht;exact ht rfl
    have tt2:¬ tt.toList=[]:=by simpa using tt1
    have HR:Hid (R=false):=by unfold Hid;rw[←hR];unfold bareB;simp[ht]
    clear hR
    go_enter Tryz.func176,Tryz.ntmps176
    go_wp2
    go_ret
    exact⟨by rw[HR.o];try rfl,HB.o _⟩
  ·have tp:((pp:Int)==0)=false:=by simp;omega
   have HR:Hid (R=false):=by unfold Hid;rw[←hR];unfold bareB;simp[hp]
   clear hR
   go_enter Tryz.func176,Tryz.ntmps176
   go_wp2
   go_ret
   exact⟨by rw[HR.o];try rfl,HB.o _⟩
 ·have tn:(nn==0)=false:=by simpa using hn
  have HR:Hid (R=false):=by unfold Hid;rw[←hR];unfold bareB;simp[hn]
  clear hR
  go_enter Tryz.func176,Tryz.ntmps176
  go_wp2
  go_ret
  exact⟨by rw[HR.o];try rfl,HB.o _⟩
theorem bare_1(nn:Int)(pp:Nat)(tt:ByteArray)(ia:Option Addr)(il ic:Nat)(ka:Option Addr)(kl kc:Nat)(fa:Option Addr)(fl fc:Nat)(w:World)(b1:il≤200000)(b2:kl≤200000)(b3:fl≤200000) :
  Calls Tryz.prog 176 #[.agg #[.int .i64 (1:Int),.int .i64 nn,.int .i64 (pp:Int),.string tt,.slice ia il ic,.slice ka kl kc,.slice fa fl fc]] w fun e w'=>e=.returned (.bool (bareB (true) (decide (pp=0)) (decide (tt.size=0)) (il+kl+fl)))∧Below w.heap.size w w':=by
 have HB:Hid (∀ cs:Array Value,Below w.heap.size w (w.alloc (.cells cs 67))):=fun cs=>(Below.refl _ _).alloc (Nat.le_refl _) _
 obtain⟨R,hR⟩:∃ R,(bareB (true) (decide (pp=0)) (decide (tt.size=0)) (il+kl+fl))=R:=⟨_,rfl⟩
 rw[hR]
 by_cases hp:pp=0
 ·subst hp
  by_cases ht:tt.size=0
  ·have ht2:=siz ht;clear ht;subst ht2
   have HR:Hid (R=decide (il+kl+fl=0)):=by unfold Hid;rw[←hR];rfl
   clear hR
   go_enter Tryz.func176,Tryz.ntmps176
   go_wp2
   go_ret
   refine⟨?_,HB.o _⟩
   rw[HR.o]
   first
    |rfl
    | (show Ending.returned (Value.bool ((il:Int)+(kl:Int)+(fl:Int)==0))=_;congr 2;rw[Bool.eq_iff_iff];simp;try omega)
  ·have tt1:(tt.toList==[])=false:=by rw[strK,decide_eq_false_iff_not];intro e;rw[e]at ht;exact ht rfl
   have tt2:¬ tt.toList=[]:=by simpa using tt1
   have HR:Hid (R=false):=by unfold Hid;rw[←hR];unfold bareB;simp[ht]
   clear hR
   go_enter Tryz.func176,Tryz.ntmps176
   go_wp2
   go_ret
   exact⟨by rw[HR.o];try rfl,HB.o _⟩
 ·have tp:((pp:Int)==0)=false:=by simp;omega
  have HR:Hid (R=false):=by unfold Hid;rw[←hR];unfold bareB;simp[hp]
  clear hR
  go_enter Tryz.func176,Tryz.ntmps176
  go_wp2
  go_ret
  exact⟨by rw[HR.o];try rfl,HB.o _⟩
theorem bare_2(nn:Int)(pp:Nat)(tt:ByteArray)(ia:Option Addr)(il ic:Nat)(ka:Option Addr)(kl kc:Nat)(fa:Option Addr)(fl fc:Nat)(w:World)(b1:il≤200000)(b2:kl≤200000)(b3:fl≤200000) :
  Calls Tryz.prog 176 #[.agg #[.int .i64 (2:Int),.int .i64 nn,.int .i64 (pp:Int),.string tt,.slice ia il ic,.slice ka kl kc,.slice fa fl fc]] w fun e w'=>e=.returned (.bool (bareB (true) (decide (pp=0)) (decide (tt.size=0)) (il+kl+fl)))∧Below w.heap.size w w':=by
 have HB:Hid (∀ cs:Array Value,Below w.heap.size w (w.alloc (.cells cs 67))):=fun cs=>(Below.refl _ _).alloc (Nat.le_refl _) _
 obtain⟨R,hR⟩:∃ R,(bareB (true) (decide (pp=0)) (decide (tt.size=0)) (il+kl+fl))=R:=⟨_,rfl⟩
 rw[hR]
 by_cases hp:pp=0
 ·subst hp
  by_cases ht:tt.size=0
  ·have ht2:=siz ht;clear ht;subst ht2
   have HR:Hid (R=decide (il+kl+fl=0)):=by unfold Hid;rw[←hR];rfl
   clear hR
   go_enter Tryz.func176,Tryz.ntmps176
   go_wp2
   go_ret
   refine⟨?_,HB.o _⟩
   rw[HR.o]
   first
    |rfl
    | (show Ending.returned (Value.bool ((il:Int)+(kl:Int)+(fl:Int)==0))=_;congr 2;rw[Bool.eq_iff_iff];simp;try omega)
  ·have tt1:(tt.toList==[])=false:=by rw[strK,decide_eq_false_iff_not];intro e;rw[e]at ht;exact ht rfl
   have tt2:¬ tt.toList=[]:=by simpa using tt1
   have HR:Hid (R=false):=by unfold Hid;rw[←hR];unfold bareB;simp[ht]
   clear hR
   go_enter Tryz.func176,Tryz.ntmps176
   go_wp2
   go_ret
   exact⟨by rw[HR.o];try rfl,HB.o _⟩
 ·have tp:((pp:Int)==0)=false:=by simp;omega
  have HR:Hid (R=false):=by unfold Hid;rw[←hR];unfold bareB;simp[hp]
  clear hR
  go_enter Tryz.func176,Tryz.ntmps176
  go_wp2
  go_ret
  exact⟨by rw[HR.o];try rfl,HB.o _⟩
theorem bare_3(nn:Int)(pp:Nat)(tt:ByteArray)(ia:Option Addr)(il ic:Nat)(ka:Option Addr)(kl kc:Nat)(fa:Option Addr)(fl fc:Nat)(w:World)(b1:il≤200000)(b2:kl≤200000)(b3:fl≤200000) :
  Calls Tryz.prog 176 #[.agg #[.int .i64 (3:Int),.int .i64 nn,.int .i64 (pp:Int),.string tt,.slice ia il ic,.slice ka kl kc,.slice fa fl fc]] w fun e w'=>e=.returned (.bool (bareB (true) (true) (decide (tt.size=0)) (il+kl+fl)))∧Below w.heap.size w w':=by
 have HB:Hid (∀ cs:Array Value,Below w.heap.size w (w.alloc (.cells cs 67))):=fun cs=>(Below.refl _ _).alloc (Nat.le_refl _) _
 obtain⟨R,hR⟩:∃ R,(bareB (true) (true) (decide (tt.size=0)) (il+kl+fl))=R:=⟨_,rfl⟩
 rw[hR]
 by_cases ht:tt.size=0
 ·have ht2:=siz ht;clear ht;subst ht2
  have HR:Hid (R=decide (il+kl+fl=0)):=by unfold Hid;rw[←hR];rfl
  clear hR
  go_enter Tryz.func176,Tryz.ntmps176
  go_wp2
  go_ret
  refine⟨?_,HB.o _⟩
  rw[HR.o]
  first
   |rfl
   | (show Ending.returned (Value.bool ((il:Int)+(kl:Int)+(fl:Int)==0))=_;congr 2;rw[Bool.eq_iff_iff];simp;try omega)
 ·have tt1:(tt.toList==[])=false:=by rw[strK,decide_eq_false_iff_not];intro e;rw[e]at ht;exact ht rfl
  have tt2:¬ tt.toList=[]:=by simpa using tt1
  have HR:Hid (R=false):=by unfold Hid;rw[←hR];unfold bareB;simp[ht]
  clear hR
  go_enter Tryz.func176,Tryz.ntmps176
  go_wp2
  go_ret
  exact⟨by rw[HR.o];try rfl,HB.o _⟩
theorem bare_4(nn:Int)(pp:Nat)(tt:ByteArray)(ia:Option Addr)(il ic:Nat)(ka:Option Addr)(kl kc:Nat)(fa:Option Addr)(fl fc:Nat)(w:World)(b1:il≤200000)(b2:kl≤200000)(b3:fl≤200000) :
  Calls Tryz.prog 176 #[.agg #[.int .i64 (4:Int),.int .i64 nn,.int .i64 (pp:Int),.string tt,.slice ia il ic,.slice ka kl kc,.slice fa fl fc]] w fun e w'=>e=.returned (.bool (bareB (decide (nn=0)) (decide (pp=0)) (true) (il+kl+fl)))∧Below w.heap.size w w':=by
 have HB:Hid (∀ cs:Array Value,Below w.heap.size w (w.alloc (.cells cs 67))):=fun cs=>(Below.refl _ _).alloc (Nat.le_refl _) _
 obtain⟨R,hR⟩:∃ R,(bareB (decide (nn=0)) (decide (pp=0)) (true) (il+kl+fl))=R:=⟨_,rfl⟩
 rw[hR]
 by_cases hn:nn=0
 ·subst hn
  by_cases hp:pp=0
  ·subst hp
   have HR:Hid (R=decide (il+kl+fl=0)):=by unfold Hid;rw[←hR];rfl
   clear hR
   go_enter Tryz.func176,Tryz.ntmps176
   go_wp2
   go_ret
   refine⟨?_,HB.o _⟩
   rw[HR.o]
   first
    |rfl
    | (show Ending.returned (Value.bool ((il:Int)+(kl:Int)+(fl:Int)==0))=_;congr 2;rw[Bool.eq_iff_iff];simp;try omega)
  ·have tp:((pp:Int)==0)=false:=by simp;omega
   have HR:Hid (R=false):=by unfold Hid;rw[←hR];unfold bareB;simp[hp]
   clear hR
   go_enter Tryz.func176,Tryz.ntmps176
   go_wp2
   go_ret
   exact⟨by rw[HR.o];try rfl,HB.o _⟩
 ·have tn:(nn==0)=false:=by simpa using hn
  have HR:Hid (R=false):=by unfold Hid;rw[←hR];unfold bareB;simp[hn]
  clear hR
  go_enter Tryz.func176,Tryz.ntmps176
  go_wp2
  go_ret
  exact⟨by rw[HR.o];try rfl,HB.o _⟩
theorem bare_5(nn:Int)(pp:Nat)(tt:ByteArray)(ia:Option Addr)(il ic:Nat)(ka:Option Addr)(kl kc:Nat)(fa:Option Addr)(fl fc:Nat)(w:World)(b1:il≤200000)(b2:kl≤200000)(b3:fl≤200000) :
  Calls Tryz.prog 176 #[.agg #[.int .i64 (5:Int),.int .i64 nn,.int .i64 (pp:Int),.string tt,.slice ia il ic,.slice ka kl kc,.slice fa fl fc]] w fun e w'=>e=.returned (.bool (bareB (decide (nn=0)) (decide (pp=0)) (true) (il+kl+fl)))∧Below w.heap.size w w':=by
 have HB:Hid (∀ cs:Array Value,Below w.heap.size w (w.alloc (.cells cs 67))):=fun cs=>(Below.refl _ _).alloc (Nat.le_refl _) _
 obtain⟨R,hR⟩:∃ R,(bareB (decide (nn=0)) (decide (pp=0)) (true) (il+kl+fl))=R:=⟨_,rfl⟩
 rw[hR]
 by_cases hn:nn=0
 ·subst hn
  by_cases hp:pp=0
  ·subst hp
   have HR:Hid (R=decide (il+kl+fl=0)):=by unfold Hid;rw[←hR];rfl
   clear hR
   go_enter Tryz.func176,Tryz.ntmps176
   go_wp2
   go_ret
   refine⟨?_,HB.o _⟩
   rw[HR.o]
   first
    |rfl
    | (show Ending.returned (Value.bool ((il:Int)+(kl:Int)+(fl:Int)==0))=_;congr 2;rw[Bool.eq_iff_iff];simp;try omega)
  ·have tp:((pp:Int)==0)=false:=by simp;omega
   have HR:Hid (R=false):=by unfold Hid;rw[←hR];unfold bareB;simp[hp]
   clear hR
   go_enter Tryz.func176,Tryz.ntmps176
   go_wp2
   go_ret
   exact⟨by rw[HR.o];try rfl,HB.o _⟩
 ·have tn:(nn==0)=false:=by simpa using hn
  have HR:Hid (R=false):=by unfold Hid;rw[←hR];unfold bareB;simp[hn]
  clear hR
  go_enter Tryz.func176,Tryz.ntmps176
  go_wp2
  go_ret
  exact⟨by rw[HR.o];try rfl,HB.o _⟩
theorem bare_6(nn:Int)(pp:Nat)(tt:ByteArray)(ia:Option Addr)(il ic:Nat)(ka:Option Addr)(kl kc:Nat)(fa:Option Addr)(fl fc:Nat)(w:World)(b1:il≤200000)(b2:kl≤200000)(b3:fl≤200000) :
  Calls Tryz.prog 176 #[.agg #[.int .i64 (6:Int),.int .i64 nn,.int .i64 (pp:Int),.string tt,.slice ia il ic,.slice ka kl kc,.slice fa fl fc]] w fun e w'=>e=.returned (.bool (bareB (decide (nn=0)) (decide (pp=0)) (decide (tt.size=0)) (kl+fl)))∧Below w.heap.size w w':=by
 have HB:Hid (∀ cs:Array Value,Below w.heap.size w (w.alloc (.cells cs 67))):=fun cs=>(Below.refl _ _).alloc (Nat.le_refl _) _
 obtain⟨R,hR⟩:∃ R,(bareB (decide (nn=0)) (decide (pp=0)) (decide (tt.size=0)) (kl+fl))=R:=⟨_,rfl⟩
 rw[hR]
 by_cases hn:nn=0
 ·subst hn
  by_cases hp:pp=0
  ·subst hp
   by_cases ht:tt.size=0
   ·have ht2:=siz ht;clear ht;subst ht2
    have HR:Hid (R=decide (kl+fl=0)):=by unfold Hid;rw[←hR];rfl
    clear hR
    go_enter Tryz.func176,Tryz.ntmps176
    go_wp2
    go_ret
    refine⟨?_,HB.o _⟩
    rw[HR.o]
    first
     |rfl
     | (show Ending.returned (Value.bool ((kl:Int)+(fl:Int)==0))=_;congr 2;rw[Bool.eq_iff_iff];simp;try omega)
   ·have tt1:(tt.toList==[])=false:=by rw[strK,decide_eq_false_iff_not];intro e;rw[e]at ht;exact ht rfl
    have tt2:¬ tt.toList=[]:=by simpa using tt1
    have HR:Hid (R=false):=by unfold Hid;rw[←hR];unfold bareB;simp[ht]
    clear hR
    go_enter Tryz.func176,Tryz.ntmps176
    go_wp2
    go_ret
    exact⟨by rw[HR.o];try rfl,HB.o _⟩
  ·have tp:((pp:Int)==0)=false:=by simp;omega
   have HR:Hid (R=false):=by unfold Hid;rw[←hR];unfold bareB;simp[hp]
   clear hR
   go_enter Tryz.func176,Tryz.ntmps176
   go_wp2
   go_ret
   exact⟨by rw[HR.o];try rfl,HB.o _⟩
 ·have tn:(nn==0)=false:=by simpa using hn
  have HR:Hid (R=false):=by unfold Hid;rw[←hR];unfold bareB;simp[hn]
  clear hR
  go_enter Tryz.func176,Tryz.ntmps176
  go_wp2
  go_ret
  exact⟨by rw[HR.o];try rfl,HB.o _⟩
theorem bare_7(nn:Int)(pp:Nat)(tt:ByteArray)(ia:Option Addr)(il ic:Nat)(ka:Option Addr)(kl kc:Nat)(fa:Option Addr)(fl fc:Nat)(w:World)(b1:il≤200000)(b2:kl≤200000)(b3:fl≤200000) :
  Calls Tryz.prog 176 #[.agg #[.int .i64 (7:Int),.int .i64 nn,.int .i64 (pp:Int),.string tt,.slice ia il ic,.slice ka kl kc,.slice fa fl fc]] w fun e w'=>e=.returned (.bool (bareB (decide (nn=0)) (decide (pp=0)) (decide (tt.size=0)) (fl)))∧Below w.heap.size w w':=by
 have HB:Hid (∀ cs:Array Value,Below w.heap.size w (w.alloc (.cells cs 67))):=fun cs=>(Below.refl _ _).alloc (Nat.le_refl _) _
 obtain⟨R,hR⟩:∃ R,(bareB (decide (nn=0)) (decide (pp=0)) (decide (tt.size=0)) (fl))=R:=⟨_,rfl⟩
 rw[hR]
 by_cases hn:nn=0
 ·subst hn
  by_cases hp:pp=0
  ·subst hp
   by_cases ht:tt.size=0
   ·have ht2:=siz ht;clear ht;subst ht2
    have HR:Hid (R=decide (fl=0)):=by unfold Hid;rw[←hR];rfl
    clear hR
    go_enter Tryz.func176,Tryz.ntmps176
    go_wp2
    go_ret
    refine⟨?_,HB.o _⟩
    rw[HR.o]
    first
     |rfl
     | (show Ending.returned (Value.bool ((fl:Int)==0))=_;congr 2;rw[Bool.eq_iff_iff];simp;try omega)
   ·have tt1:(tt.toList==[])=false:=by rw[strK,decide_eq_false_iff_not];intro e;rw[e]at ht;exact ht rfl
    have tt2:¬ tt.toList=[]:=by simpa using tt1
    have HR:Hid (R=false):=by unfold Hid;rw[←hR];unfold bareB;simp[ht]
    clear hR
    go_enter Tryz.func176,Tryz.ntmps176
    go_wp2
    go_ret
    exact⟨by rw[HR.o];try rfl,HB.o _⟩
  ·have tp:((pp:Int)==0)=false:=by simp;omega
   have HR:Hid (R=false):=by unfold Hid;rw[←hR];unfold bareB;simp[hp]
   clear hR
   go_enter Tryz.func176,Tryz.ntmps176
   go_wp2
   go_ret
   exact⟨by rw[HR.o];try rfl,HB.o _⟩
 ·have tn:(nn==0)=false:=by simpa using hn
  have HR:Hid (R=false):=by unfold Hid;rw[←hR];unfold bareB;simp[hn]
  clear hR
  go_enter Tryz.func176,Tryz.ntmps176
  go_wp2
  go_ret
  exact⟨by rw[HR.o];try rfl,HB.o _⟩
theorem bare_8(nn:Int)(pp:Nat)(tt:ByteArray)(ia:Option Addr)(il ic:Nat)(ka:Option Addr)(kl kc:Nat)(fa:Option Addr)(fl fc:Nat)(w:World)(b1:il≤200000)(b2:kl≤200000)(b3:fl≤200000) :
  Calls Tryz.prog 176 #[.agg #[.int .i64 (8:Int),.int .i64 nn,.int .i64 (pp:Int),.string tt,.slice ia il ic,.slice ka kl kc,.slice fa fl fc]] w fun e w'=>e=.returned (.bool (bareB (decide (nn=0)) (decide (pp=0)) (true) (0)))∧Below w.heap.size w w':=by
 have HB:Hid (∀ cs:Array Value,Below w.heap.size w (w.alloc (.cells cs 67))):=fun cs=>(Below.refl _ _).alloc (Nat.le_refl _) _
 obtain⟨R,hR⟩:∃ R,(bareB (decide (nn=0)) (decide (pp=0)) (true) (0))=R:=⟨_,rfl⟩
 rw[hR]
 by_cases hn:nn=0
 ·subst hn
  by_cases hp:pp=0
  ·subst hp
   have HR:Hid (R=decide (0=0)):=by unfold Hid;rw[←hR];rfl
   clear hR
   go_enter Tryz.func176,Tryz.ntmps176
   go_wp2
   go_ret
   refine⟨?_,HB.o _⟩
   rw[HR.o]
   first
    |rfl
    | (show Ending.returned (Value.bool ((0:Int)==0))=_;congr 2;rw[Bool.eq_iff_iff];simp;try omega)
  ·have tp:((pp:Int)==0)=false:=by simp;omega
   have HR:Hid (R=false):=by unfold Hid;rw[←hR];unfold bareB;simp[hp]
   clear hR
   go_enter Tryz.func176,Tryz.ntmps176
   go_wp2
   go_ret
   exact⟨by rw[HR.o];try rfl,HB.o _⟩
 ·have tn:(nn==0)=false:=by simpa using hn
  have HR:Hid (R=false):=by unfold Hid;rw[←hR];unfold bareB;simp[hn]
  clear hR
  go_enter Tryz.func176,Tryz.ntmps176
  go_wp2
  go_ret
  exact⟨by rw[HR.o];try rfl,HB.o _⟩
theorem bare_9(nn:Int)(pp:Nat)(tt:ByteArray)(ia:Option Addr)(il ic:Nat)(ka:Option Addr)(kl kc:Nat)(fa:Option Addr)(fl fc:Nat)(w:World)(b1:il≤200000)(b2:kl≤200000)(b3:fl≤200000) :
  Calls Tryz.prog 176 #[.agg #[.int .i64 (9:Int),.int .i64 nn,.int .i64 (pp:Int),.string tt,.slice ia il ic,.slice ka kl kc,.slice fa fl fc]] w fun e w'=>e=.returned (.bool (bareB (true) (decide (pp=0)) (decide (tt.size=0)) (il+kl+fl)))∧Below w.heap.size w w':=by
 have HB:Hid (∀ cs:Array Value,Below w.heap.size w (w.alloc (.cells cs 67))):=fun cs=>(Below.refl _ _).alloc (Nat.le_refl _) _
 obtain⟨R,hR⟩:∃ R,(bareB (true) (decide (pp=0)) (decide (tt.size=0)) (il+kl+fl))=R:=⟨_,rfl⟩
 rw[hR]
 by_cases hp:pp=0
 ·subst hp
  by_cases ht:tt.size=0
  ·have ht2:=siz ht;clear ht;subst ht2
   have HR:Hid (R=decide (il+kl+fl=0)):=by unfold Hid;rw[←hR];rfl
   clear hR
   go_enter Tryz.func176,Tryz.ntmps176
   go_wp2
   go_ret
   refine⟨?_,HB.o _⟩
   rw[HR.o]
   first
    |rfl
    | (show Ending.returned (Value.bool ((il:Int)+(kl:Int)+(fl:Int)==0))=_;congr 2;rw[Bool.eq_iff_iff];simp;try omega)
  ·have tt1:(tt.toList==[])=false:=by rw[strK,decide_eq_false_iff_not];intro e;rw[e]at ht;exact ht rfl
   have tt2:¬ tt.toList=[]:=by simpa using tt1
   have HR:Hid (R=false):=by unfold Hid;rw[←hR];unfold bareB;simp[ht]
   clear hR
   go_enter Tryz.func176,Tryz.ntmps176
   go_wp2
   go_ret
   exact⟨by rw[HR.o];try rfl,HB.o _⟩
 ·have tp:((pp:Int)==0)=false:=by simp;omega
  have HR:Hid (R=false):=by unfold Hid;rw[←hR];unfold bareB;simp[hp]
  clear hR
  go_enter Tryz.func176,Tryz.ntmps176
  go_wp2
  go_ret
  exact⟨by rw[HR.o];try rfl,HB.o _⟩
theorem ba1(z:Int)(t0:(z==0)=false)(t1:(z==1)=false)(t2:(z==2)=false)(t3:(z==3)=false)(t4:(z==4)=false)(t5:(z==5)=false)(t6:(z==6)=false)(t7:(z==7)=false)(t8:(z==8)=false)(t9:(z==9)=false)(nn:Int)(pp:Nat)(tt:ByteArray)(ia:Option Addr)(il ic:Nat)(ka:Option Addr)(kl kc:Nat)(fa:Option Addr)(fl fc:Nat)(w:World)(b1:il≤200000)(b2:kl≤200000)(b3:fl≤200000) :
  Calls Tryz.prog 176 #[.agg #[.int .i64 z,.int .i64 nn,.int .i64 (pp:Int),.string tt,.slice ia il ic,.slice ka kl kc,.slice fa fl fc]] w fun e w'=>e=.returned (.bool (bareB (decide (nn=0)) (decide (pp=0)) (decide (tt.size=0)) (il+kl+fl)))∧Below w.heap.size w w':=by
 have HB:Hid (∀ cs:Array Value,Below w.heap.size w (w.alloc (.cells cs 67))):=fun cs=>(Below.refl _ _).alloc (Nat.le_refl _) _
 obtain⟨R,hR⟩:∃ R,(bareB (decide (nn=0)) (decide (pp=0)) (decide (tt.size=0)) (il+kl+fl))=R:=⟨_,rfl⟩
 rw[hR]
 by_cases hn:nn=0
 ·subst hn
  by_cases hp:pp=0
  ·subst hp
   by_cases ht:tt.size=0
   ·have ht2:=siz ht;clear ht;subst ht2
    have HR:Hid (R=decide (il+kl+fl=0)):=by unfold Hid;rw[←hR];rfl
    clear hR
    go_enter Tryz.func176,Tryz.ntmps176
    go_wp2
    go_ret
    refine⟨?_,HB.o _⟩
    rw[HR.o]
    first
     |rfl
     | (show Ending.returned (Value.bool ((il:Int)+(kl:Int)+(fl:Int)==0))=_;congr 2;rw[Bool.eq_iff_iff];simp;try omega)
   ·have tt1:(tt.toList==[])=false:=by rw[strK,decide_eq_false_iff_not];intro e;rw[e]at ht;exact ht rfl
    have tt2:¬ tt.toList=[]:=by simpa using tt1
    have HR:Hid (R=false):=by unfold Hid;rw[←hR];unfold bareB;simp[ht]
    clear hR
    go_enter Tryz.func176,Tryz.ntmps176
    go_wp2
    go_ret
    exact⟨by rw[HR.o];try rfl,HB.o _⟩
  ·have tp:((pp:Int)==0)=false:=by simp;omega
   have HR:Hid (R=false):=by unfold Hid;rw[←hR];unfold bareB;simp[hp]
   clear hR
   go_enter Tryz.func176,Tryz.ntmps176
   go_wp2
   go_ret
   exact⟨by rw[HR.o];try rfl,HB.o _⟩
 ·have tn:(nn==0)=false:=by simpa using hn
  have HR:Hid (R=false):=by unfold Hid;rw[←hR];unfold bareB;simp[hn]
  clear hR
  go_enter Tryz.func176,Tryz.ntmps176
  go_wp2
  go_ret
  exact⟨by rw[HR.o];try rfl,HB.o _⟩
end
section
variable{w:World}
theorem isBo{P:Nat→Prop}{k:Nat}{v:Value}{V:Node (VT k)}(h:VIn P (k+1) w v V)(hi:V.items.length≤200000)(hfew:V.keys.length≤200000)(hff:V.filters.length≤200000) :
  Calls Tryz.prog 176 #[v] w fun e w'=>e=.returned (.bool (Fo.bareV V))∧Below w.heap.size w w':=by
 obtain⟨iv,kv,fv,vs,hv,hvl,hiv,hvs,hkv,hfv⟩:=h.parts
 obtain⟨ia,ic,rfl⟩:=ows hiv.1
 obtain⟨ka,kc,rfl⟩:=ows hkv.1
 obtain⟨fa,fc,rfl⟩:=ows hfv.1
 clear h hfv hiv hkv hvs
 unfold Fo.bareV
 unfold nV at hv
 have e1:(decide (V.text=[]))=decide ((strN V.text).size=0):=by rw[decide_eq_decide,sNsX,List.length_eq_zero_iff]
 have e2:∀{i:Decidable (V.items=[])},(@decide (V.items=[]) i)=decide (V.items.length=0):=by intro i;rw[decide_eq_decide,List.length_eq_zero_iff]
 have e3:(decide (V.keys=[]))=decide (V.keys.length=0):=by rw[decide_eq_decide,List.length_eq_zero_iff]
 have e4:(decide (V.filters=[]))=decide (V.filters.length=0):=by rw[decide_eq_decide,List.length_eq_zero_iff]
 rw[e1,e2,e3,e4]
 clear e1 e2 e3 e4
 rw[hvl]at hv
 generalize V.n=nn at *
 generalize V.places=pp at *
 generalize strN V.text=tt at *
 generalize V.filters.length=fl at *
 generalize V.keys.length=kl at *
 generalize V.items.length=il at *
 generalize V.kind=kd at *
 subst hv
 by_cases h0:kd=0
 ·subst h0
  refine(bare_0 nn pp tt ia il ic ka kl kc fa fl fc w hi hfew hff).mono ?_
  rintro e w' ⟨rfl,hb⟩
  refine⟨?_,hb⟩
  unfold bareB
  congr 2
  rw[Bool.eq_iff_iff]
  simp[and_assoc]
  try omega
 have t0:((kd:Int)==0)=false:=by simp;omega
 by_cases h1:kd=1
 ·subst h1
  refine(bare_1 nn pp tt ia il ic ka kl kc fa fl fc w hi hfew hff).mono ?_
  rintro e w' ⟨rfl,hb⟩
  refine⟨?_,hb⟩
  unfold bareB
  congr 2
  rw[Bool.eq_iff_iff]
  simp[and_assoc]
  try omega
 have t1:((kd:Int)==1)=false:=by simp;omega
 by_cases h2:kd=2
 ·subst h2
  refine(bare_2 nn pp tt ia il ic ka kl kc fa fl fc w hi hfew hff).mono ?_
  rintro e w' ⟨rfl,hb⟩
  refine⟨?_,hb⟩
  unfold bareB
  congr 2
  rw[Bool.eq_iff_iff]
  simp[and_assoc]
  try omega
 have t2:((kd:Int)==2)=false:=by simp;omega
 by_cases h3:kd=3
 ·subst h3
  refine(bare_3 nn pp tt ia il ic ka kl kc fa fl fc w hi hfew hff).mono ?_
  rintro e w' ⟨rfl,hb⟩
  refine⟨?_,hb⟩
  unfold bareB
  congr 2
  rw[Bool.eq_iff_iff]
  simp[and_assoc]
  try omega
 have t3:((kd:Int)==3)=false:=by simp;omega
 by_cases h4:kd=4
 ·subst h4
  refine(bare_4 nn pp tt ia il ic ka kl kc fa fl fc w hi hfew hff).mono ?_
  rintro e w' ⟨rfl,hb⟩
  refine⟨?_,hb⟩
  unfold bareB
  congr 2
  rw[Bool.eq_iff_iff]
  simp[and_assoc]
  try omega
 have t4:((kd:Int)==4)=false:=by simp;omega
 by_cases h5:kd=5
 ·subst h5
  refine(bare_5 nn pp tt ia il ic ka kl kc fa fl fc w hi hfew hff).mono ?_
  rintro e w' ⟨rfl,hb⟩
  refine⟨?_,hb⟩
  unfold bareB
  congr 2
  rw[Bool.eq_iff_iff]
  simp[and_assoc]
  try omega
 have t5:((kd:Int)==5)=false:=by simp;omega
 by_cases h6:kd=6
 ·subst h6
  refine(bare_6 nn pp tt ia il ic ka kl kc fa fl fc w hi hfew hff).mono ?_
  rintro e w' ⟨rfl,hb⟩
  refine⟨?_,hb⟩
  unfold bareB
  congr 2
  rw[Bool.eq_iff_iff]
  simp[and_assoc]
  try omega
 have t6:((kd:Int)==6)=false:=by simp;omega
 by_cases h7:kd=7
 ·subst h7
  refine(bare_7 nn pp tt ia il ic ka kl kc fa fl fc w hi hfew hff).mono ?_
  rintro e w' ⟨rfl,hb⟩
  refine⟨?_,hb⟩
  unfold bareB
  congr 2
  rw[Bool.eq_iff_iff]
  simp[and_assoc]
  try omega
 have t7:((kd:Int)==7)=false:=by simp;omega
 by_cases h8:kd=8
 ·subst h8
  refine(bare_8 nn pp tt ia il ic ka kl kc fa fl fc w hi hfew hff).mono ?_
  rintro e w' ⟨rfl,hb⟩
  refine⟨?_,hb⟩
  unfold bareB
  congr 2
  rw[Bool.eq_iff_iff]
  simp[and_assoc]
  try omega
 have t8:((kd:Int)==8)=false:=by simp;omega
 by_cases h9:kd=9
 ·subst h9
  refine(bare_9 nn pp tt ia il ic ka kl kc fa fl fc w hi hfew hff).mono ?_
  rintro e w' ⟨rfl,hb⟩
  refine⟨?_,hb⟩
  unfold bareB
  congr 2
  rw[Bool.eq_iff_iff]
  simp[and_assoc]
  try omega
 have t9:((kd:Int)==9)=false:=by simp;omega
 refine(ba1 (kd:Int) t0 t1 t2 t3 t4 t5 t6 t7 t8 t9 nn pp tt ia il ic ka kl kc fa fl fc w hi hfew hff).mono ?_
 rintro e w' ⟨rfl,hb⟩
 refine⟨?_,hb⟩
 unfold bareB
 congr 2
 rw[Bool.eq_iff_iff]
 simp[h0,h1,h2,h3,h4,h5,h6,h7,h8,h9,and_assoc]
 try omega
end
end Go.Proofs.YtgkljcmjnphpeaaGreatDoor
