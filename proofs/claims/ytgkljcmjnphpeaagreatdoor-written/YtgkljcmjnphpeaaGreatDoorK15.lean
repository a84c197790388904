import Derived.Test.YtgkljcmjnphpeaaGreatDoorK14
set_option linter.unusedVariables false
set_option linter.unusedSimpArgs false
set_option maxHeartbeats 4000000
set_option maxRecDepth 100000
namespace Go.Proofs.YtgkljcmjnphpeaaGreatDoor
open Go.RowKit
section
variable{w d:World}
theorem DX(a:List Nat):(gC a).size=a.length:=by unfold gC;show(a.map UInt8.ofNat).toArray.size=_;simp
theorem xJ{a:ByteArray}(b:a.size=0):a={ data:=#[] }:=fP (Array.eq_empty_of_size_eq_zero b)
def i4(a b c:Bool)(e:Nat):Bool:=a&&b&&c&&decide (e=0)
theorem xX(j:Int)(k:Nat)(h:ByteArray)(u:Option Addr)(f v:Nat)(x:Option Addr)(g y:Nat)(r:Option Addr)(e s:Nat)(w:World)(A:f<=200000)(B:g<=200000)(C:e<=200000) :
  Calls Tryz.prog 176 #[.agg #[.int .i64 (0:Int),.int .i64 j,.int .i64 (k:Int),.string h,.slice u f v,.slice x g y,.slice r e s]] w λm d=>m=.returned (.bool (i4 (decide (j=0)) (decide (k=0)) (decide (h.size=0)) (f+g+e)))/\Below w.heap.size w d:=by
 have l:Hid (∀p:Array Value,Below w.heap.size w (w.alloc (.cells p 67))):=λp=>(aj _ _).alloc (af _) _;obtain⟨c,a⟩:∃c,(i4 (decide (j=0)) (decide (k=0)) (decide (h.size=0)) (f+g+e))=c:=⟨_,rfl⟩;rw[a];by_cases n:j=0
 ·subst n;by_cases q:k=0
  ·subst q;by_cases i:h.size=0
   ·have t:=xJ i;clear i;subst t;have b:Hid (c=decide (f+g+e=0)):=by unfold Hid;rw[<-a];rfl
    clear a;go_enter bR,bK;go_wp2;go_ret;refine⟨?_,l.o _⟩;rw[b.o];first
     |rfl
     | (show Ending.returned (Value.bool ((f:Int)+(g:Int)+(e:Int)==0))=_;congr 2;rw[aZ];simp;try omega)
   ·have z:(h.toList==[])=false:=by rw[oG,bG];intro m;rw[m]at i;exact i rfl
    have F:¬ h.toList=[]:=by simpa using z
    have b:Hid (c=false):=by unfold Hid;rw[<-a];unfold i4;simp[i]
    clear a;go_enter bR,bK;go_wp2;go_ret;exact⟨by rw[b.o];try rfl,l.o _⟩
  ·have E:((k:Int)==0)=false:=by simp;omega
   have b:Hid (c=false):=by unfold Hid;rw[<-a];unfold i4;simp[q]
   clear a;go_enter bR,bK;go_wp2;go_ret;exact⟨by rw[b.o];try rfl,l.o _⟩
 ·have D:(j==0)=false:=by simpa using n
  have b:Hid (c=false):=by unfold Hid;rw[<-a];unfold i4;simp[n]
  clear a;go_enter bR,bK;go_wp2;go_ret;exact⟨by rw[b.o];try rfl,l.o _⟩
theorem xY(x:Int)(j:Nat)(f:ByteArray)(s:Option Addr)(c t:Nat)(u:Option Addr)(e v:Nat)(p:Option Addr)(b q:Nat)(w:World)(z:c<=200000)(A:e<=200000)(B:b<=200000) :
  Calls Tryz.prog 176 #[.agg #[.int .i64 (1:Int),.int .i64 x,.int .i64 (j:Int),.string f,.slice s c t,.slice u e v,.slice p b q]] w λl d=>l=.returned (.bool (i4 (true) (decide (j=0)) (decide (f.size=0)) (c+e+b)))/\Below w.heap.size w d:=by
 have k:Hid (∀m:Array Value,Below w.heap.size w (w.alloc (.cells m 67))):=λm=>(aj _ _).alloc (af _) _;obtain⟨h,a⟩:∃h,(i4 (true) (decide (j=0)) (decide (f.size=0)) (c+e+b))=h:=⟨_,rfl⟩;rw[a];by_cases n:j=0
 ·subst n;by_cases i:f.size=0
  ·have r:=xJ i;clear i;subst r;have g:Hid (h=decide (c+e+b=0)):=by unfold Hid;rw[<-a];rfl
   clear a;go_enter bR,bK;go_wp2;go_ret;refine⟨?_,k.o _⟩;rw[g.o];first
    |rfl
    | (show Ending.returned (Value.bool ((c:Int)+(e:Int)+(b:Int)==0))=_;congr 2;rw[aZ];simp;try omega)
  ·have y:(f.toList==[])=false:=by rw[oG,bG];intro l;rw[l]at i;exact i rfl
   have D:¬ f.toList=[]:=by simpa using y
   have g:Hid (h=false):=by unfold Hid;rw[<-a];unfold i4;simp[i]
   clear a;go_enter bR,bK;go_wp2;go_ret;exact⟨by rw[g.o];try rfl,k.o _⟩
 ·have C:((j:Int)==0)=false:=by simp;omega
  have g:Hid (h=false):=by unfold Hid;rw[<-a];unfold i4;simp[n]
  clear a;go_enter bR,bK;go_wp2;go_ret;exact⟨by rw[g.o];try rfl,k.o _⟩
theorem xZ(x:Int)(j:Nat)(f:ByteArray)(s:Option Addr)(c t:Nat)(u:Option Addr)(e v:Nat)(p:Option Addr)(b q:Nat)(w:World)(z:c<=200000)(A:e<=200000)(B:b<=200000) :
  Calls Tryz.prog 176 #[.agg #[.int .i64 (2:Int),.int .i64 x,.int .i64 (j:Int),.string f,.slice s c t,.slice u e v,.slice p b q]] w λl d=>l=.returned (.bool (i4 (true) (decide (j=0)) (decide (f.size=0)) (c+e+b)))/\Below w.heap.size w d:=by
 have k:Hid (∀m:Array Value,Below w.heap.size w (w.alloc (.cells m 67))):=λm=>(aj _ _).alloc (af _) _;obtain⟨h,a⟩:∃h,(i4 (true) (decide (j=0)) (decide (f.size=0)) (c+e+b))=h:=⟨_,rfl⟩;rw[a];by_cases n:j=0
 ·subst n;by_cases i:f.size=0
  ·have r:=xJ i;clear i;subst r;have g:Hid (h=decide (c+e+b=0)):=by unfold Hid;rw[<-a];rfl
   clear a;go_enter bR,bK;go_wp2;go_ret;refine⟨?_,k.o _⟩;rw[g.o];first
    |rfl
    | (show Ending.returned (Value.bool ((c:Int)+(e:Int)+(b:Int)==0))=_;congr 2;rw[aZ];simp;try omega)
  ·have y:(f.toList==[])=false:=by rw[oG,bG];intro l;rw[l]at i;exact i rfl
   have D:¬ f.toList=[]:=by simpa using y
   have g:Hid (h=false):=by unfold Hid;rw[<-a];unfold i4;simp[i]
   clear a;go_enter bR,bK;go_wp2;go_ret;exact⟨by rw[g.o];try rfl,k.o _⟩
 ·have C:((j:Int)==0)=false:=by simp;omega
  have g:Hid (h=false):=by unfold Hid;rw[<-a];unfold i4;simp[n]
  clear a;go_enter bR,bK;go_wp2;go_ret;exact⟨by rw[g.o];try rfl,k.o _⟩
theorem x8(u:Int)(v:Nat)(e:ByteArray)(q:Option Addr)(b r:Nat)(s:Option Addr)(c t:Nat)(m:Option Addr)(a n:Nat)(w:World)(y:b<=200000)(z:c<=200000)(A:a<=200000) :
  Calls Tryz.prog 176 #[.agg #[.int .i64 (3:Int),.int .i64 u,.int .i64 (v:Int),.string e,.slice q b r,.slice s c t,.slice m a n]] w λj d=>j=.returned (.bool (i4 (true) (true) (decide (e.size=0)) (b+c+a)))/\Below w.heap.size w d:=by
 have k:Hid (∀l:Array Value,Below w.heap.size w (w.alloc (.cells l 67))):=λl=>(aj _ _).alloc (af _) _;obtain⟨h,f⟩:∃h,(i4 (true) (true) (decide (e.size=0)) (b+c+a))=h:=⟨_,rfl⟩;rw[f];by_cases g:e.size=0
 ·have p:=xJ g;clear g;subst p;have i:Hid (h=decide (b+c+a=0)):=by unfold Hid;rw[<-f];rfl
  clear f;go_enter bR,bK;go_wp2;go_ret;refine⟨?_,k.o _⟩;rw[i.o];first
   |rfl
   | (show Ending.returned (Value.bool ((b:Int)+(c:Int)+(a:Int)==0))=_;congr 2;rw[aZ];simp;try omega)
 ·have x:(e.toList==[])=false:=by rw[oG,bG];intro j;rw[j]at g;exact g rfl
  have B:¬ e.toList=[]:=by simpa using x
  have i:Hid (h=false):=by unfold Hid;rw[<-f];unfold i4;simp[g]
  clear f;go_enter bR,bK;go_wp2;go_ret;exact⟨by rw[i.o];try rfl,k.o _⟩
theorem x_(h:Int)(i:Nat)(v:ByteArray)(r:Option Addr)(c s:Nat)(t:Option Addr)(e u:Nat)(p:Option Addr)(b q:Nat)(w:World)(x:c<=200000)(y:e<=200000)(z:b<=200000) :
  Calls Tryz.prog 176 #[.agg #[.int .i64 (4:Int),.int .i64 h,.int .i64 (i:Int),.string v,.slice r c s,.slice t e u,.slice p b q]] w λn d=>n=.returned (.bool (i4 (decide (h=0)) (decide (i=0)) (true) (c+e+b)))/\Below w.heap.size w d:=by
 have j:Hid (∀l:Array Value,Below w.heap.size w (w.alloc (.cells l 67))):=λl=>(aj _ _).alloc (af _) _;obtain⟨g,a⟩:∃g,(i4 (decide (h=0)) (decide (i=0)) (true) (c+e+b))=g:=⟨_,rfl⟩;rw[a];by_cases k:h=0
 ·subst k;by_cases m:i=0
  ·subst m;have f:Hid (g=decide (c+e+b=0)):=by unfold Hid;rw[<-a];rfl
   clear a;go_enter bR,bK;go_wp2;go_ret;refine⟨?_,j.o _⟩;rw[f.o];first
    |rfl
    | (show Ending.returned (Value.bool ((c:Int)+(e:Int)+(b:Int)==0))=_;congr 2;rw[aZ];simp;try omega)
  ·have B:((i:Int)==0)=false:=by simp;omega
   have f:Hid (g=false):=by unfold Hid;rw[<-a];unfold i4;simp[m]
   clear a;go_enter bR,bK;go_wp2;go_ret;exact⟨by rw[f.o];try rfl,j.o _⟩
 ·have A:(h==0)=false:=by simpa using k
  have f:Hid (g=false):=by unfold Hid;rw[<-a];unfold i4;simp[k]
  clear a;go_enter bR,bK;go_wp2;go_ret;exact⟨by rw[f.o];try rfl,j.o _⟩
theorem yb(h:Int)(i:Nat)(v:ByteArray)(r:Option Addr)(c s:Nat)(t:Option Addr)(e u:Nat)(p:Option Addr)(b q:Nat)(w:World)(x:c<=200000)(y:e<=200000)(z:b<=200000) :
  Calls Tryz.prog 176 #[.agg #[.int .i64 (5:Int),.int .i64 h,.int .i64 (i:Int),.string v,.slice r c s,.slice t e u,.slice p b q]] w λn d=>n=.returned (.bool (i4 (decide (h=0)) (decide (i=0)) (true) (c+e+b)))/\Below w.heap.size w d:=by
 have j:Hid (∀l:Array Value,Below w.heap.size w (w.alloc (.cells l 67))):=λl=>(aj _ _).alloc (af _) _;obtain⟨g,a⟩:∃g,(i4 (decide (h=0)) (decide (i=0)) (true) (c+e+b))=g:=⟨_,rfl⟩;rw[a];by_cases k:h=0
 ·subst k;by_cases m:i=0
  ·subst m;have f:Hid (g=decide (c+e+b=0)):=by unfold Hid;rw[<-a];rfl
   clear a;go_enter bR,bK;go_wp2;go_ret;refine⟨?_,j.o _⟩;rw[f.o];first
    |rfl
    | (show Ending.returned (Value.bool ((c:Int)+(e:Int)+(b:Int)==0))=_;congr 2;rw[aZ];simp;try omega)
  ·have B:((i:Int)==0)=false:=by simp;omega
   have f:Hid (g=false):=by unfold Hid;rw[<-a];unfold i4;simp[m]
   clear a;go_enter bR,bK;go_wp2;go_ret;exact⟨by rw[f.o];try rfl,j.o _⟩
 ·have A:(h==0)=false:=by simpa using k
  have f:Hid (g=false):=by unfold Hid;rw[<-a];unfold i4;simp[k]
  clear a;go_enter bR,bK;go_wp2;go_ret;exact⟨by rw[f.o];try rfl,j.o _⟩
theorem yd(i:Int)(j:Nat)(g:ByteArray)(u:Option Addr)(q v:Nat)(x:Option Addr)(f y:Nat)(r:Option Addr)(e s:Nat)(w:World)(A:q<=200000)(B:f<=200000)(C:e<=200000) :
  Calls Tryz.prog 176 #[.agg #[.int .i64 (6:Int),.int .i64 i,.int .i64 (j:Int),.string g,.slice u q v,.slice x f y,.slice r e s]] w λl d=>l=.returned (.bool (i4 (decide (i=0)) (decide (j=0)) (decide (g.size=0)) (f+e)))/\Below w.heap.size w d:=by
 have k:Hid (∀n:Array Value,Below w.heap.size w (w.alloc (.cells n 67))):=λn=>(aj _ _).alloc (af _) _;obtain⟨c,a⟩:∃c,(i4 (decide (i=0)) (decide (j=0)) (decide (g.size=0)) (f+e))=c:=⟨_,rfl⟩;rw[a];by_cases m:i=0
 ·subst m;by_cases p:j=0
  ·subst p;by_cases h:g.size=0
   ·have t:=xJ h;clear h;subst t;have b:Hid (c=decide (f+e=0)):=by unfold Hid;rw[<-a];rfl
    clear a;go_enter bR,bK;go_wp2;go_ret;refine⟨?_,k.o _⟩;rw[b.o];first
     |rfl
     | (show Ending.returned (Value.bool ((f:Int)+(e:Int)==0))=_;congr 2;rw[aZ];simp;try omega)
   ·have z:(g.toList==[])=false:=by rw[oG,bG];intro l;rw[l]at h;exact h rfl
    have F:¬ g.toList=[]:=by simpa using z
    have b:Hid (c=false):=by unfold Hid;rw[<-a];unfold i4;simp[h]
    clear a;go_enter bR,bK;go_wp2;go_ret;exact⟨by rw[b.o];try rfl,k.o _⟩
  ·have E:((j:Int)==0)=false:=by simp;omega
   have b:Hid (c=false):=by unfold Hid;rw[<-a];unfold i4;simp[p]
   clear a;go_enter bR,bK;go_wp2;go_ret;exact⟨by rw[b.o];try rfl,k.o _⟩
 ·have D:(i==0)=false:=by simpa using m
  have b:Hid (c=false):=by unfold Hid;rw[<-a];unfold i4;simp[m]
  clear a;go_enter bR,bK;go_wp2;go_ret;exact⟨by rw[b.o];try rfl,k.o _⟩
theorem ye(h:Int)(i:Nat)(f:ByteArray)(u:Option Addr)(p v:Nat)(x:Option Addr)(q y:Nat)(r:Option Addr)(e s:Nat)(w:World)(A:p<=200000)(B:q<=200000)(C:e<=200000) :
  Calls Tryz.prog 176 #[.agg #[.int .i64 (7:Int),.int .i64 h,.int .i64 (i:Int),.string f,.slice u p v,.slice x q y,.slice r e s]] w λk d=>k=.returned (.bool (i4 (decide (h=0)) (decide (i=0)) (decide (f.size=0)) (e)))/\Below w.heap.size w d:=by
 have j:Hid (∀m:Array Value,Below w.heap.size w (w.alloc (.cells m 67))):=λm=>(aj _ _).alloc (af _) _;obtain⟨c,a⟩:∃c,(i4 (decide (h=0)) (decide (i=0)) (decide (f.size=0)) (e))=c:=⟨_,rfl⟩;rw[a];by_cases l:h=0
 ·subst l;by_cases n:i=0
  ·subst n;by_cases g:f.size=0
   ·have t:=xJ g;clear g;subst t;have b:Hid (c=decide (e=0)):=by unfold Hid;rw[<-a];rfl
    clear a;go_enter bR,bK;go_wp2;go_ret;refine⟨?_,j.o _⟩;rw[b.o];first
     |rfl
     | (show Ending.returned (Value.bool ((e:Int)==0))=_;congr 2;rw[aZ];simp;try omega)
   ·have z:(f.toList==[])=false:=by rw[oG,bG];intro k;rw[k]at g;exact g rfl
    have F:¬ f.toList=[]:=by simpa using z
    have b:Hid (c=false):=by unfold Hid;rw[<-a];unfold i4;simp[g]
    clear a;go_enter bR,bK;go_wp2;go_ret;exact⟨by rw[b.o];try rfl,j.o _⟩
  ·have E:((i:Int)==0)=false:=by simp;omega
   have b:Hid (c=false):=by unfold Hid;rw[<-a];unfold i4;simp[n]
   clear a;go_enter bR,bK;go_wp2;go_ret;exact⟨by rw[b.o];try rfl,j.o _⟩
 ·have D:(h==0)=false:=by simpa using l
  have b:Hid (c=false):=by unfold Hid;rw[<-a];unfold i4;simp[l]
  clear a;go_enter bR,bK;go_wp2;go_ret;exact⟨by rw[b.o];try rfl,j.o _⟩
theorem yf(e:Int)(f:Nat)(v:ByteArray)(r:Option Addr)(l s:Nat)(t:Option Addr)(m u:Nat)(p:Option Addr)(j q:Nat)(w:World)(x:l<=200000)(y:m<=200000)(z:j<=200000) :
  Calls Tryz.prog 176 #[.agg #[.int .i64 (8:Int),.int .i64 e,.int .i64 (f:Int),.string v,.slice r l s,.slice t m u,.slice p j q]] w λn d=>n=.returned (.bool (i4 (decide (e=0)) (decide (f=0)) (true) (0)))/\Below w.heap.size w d:=by
 have g:Hid (∀i:Array Value,Below w.heap.size w (w.alloc (.cells i 67))):=λi=>(aj _ _).alloc (af _) _;obtain⟨c,a⟩:∃c,(i4 (decide (e=0)) (decide (f=0)) (true) (0))=c:=⟨_,rfl⟩;rw[a];by_cases h:e=0
 ·subst h;by_cases k:f=0
  ·subst k;have b:Hid (c=decide (0=0)):=by unfold Hid;rw[<-a];rfl
   clear a;go_enter bR,bK;go_wp2;go_ret;refine⟨?_,g.o _⟩;rw[b.o];first
    |rfl
    | (show Ending.returned (Value.bool ((0:Int)==0))=_;congr 2;rw[aZ];simp;try omega)
  ·have B:((f:Int)==0)=false:=by simp;omega
   have b:Hid (c=false):=by unfold Hid;rw[<-a];unfold i4;simp[k]
   clear a;go_enter bR,bK;go_wp2;go_ret;exact⟨by rw[b.o];try rfl,g.o _⟩
 ·have A:(e==0)=false:=by simpa using h
  have b:Hid (c=false):=by unfold Hid;rw[<-a];unfold i4;simp[h]
  clear a;go_enter bR,bK;go_wp2;go_ret;exact⟨by rw[b.o];try rfl,g.o _⟩
theorem yg(x:Int)(j:Nat)(f:ByteArray)(s:Option Addr)(c t:Nat)(u:Option Addr)(e v:Nat)(p:Option Addr)(b q:Nat)(w:World)(z:c<=200000)(A:e<=200000)(B:b<=200000) :
  Calls Tryz.prog 176 #[.agg #[.int .i64 (9:Int),.int .i64 x,.int .i64 (j:Int),.string f,.slice s c t,.slice u e v,.slice p b q]] w λl d=>l=.returned (.bool (i4 (true) (decide (j=0)) (decide (f.size=0)) (c+e+b)))/\Below w.heap.size w d:=by
 have k:Hid (∀m:Array Value,Below w.heap.size w (w.alloc (.cells m 67))):=λm=>(aj _ _).alloc (af _) _;obtain⟨h,a⟩:∃h,(i4 (true) (decide (j=0)) (decide (f.size=0)) (c+e+b))=h:=⟨_,rfl⟩;rw[a];by_cases n:j=0
 ·subst n;by_cases i:f.size=0
  ·have r:=xJ i;clear i;subst r;have g:Hid (h=decide (c+e+b=0)):=by unfold Hid;rw[<-a];rfl
   clear a;go_enter bR,bK;go_wp2;go_ret;refine⟨?_,k.o _⟩;rw[g.o];first
    |rfl
    | (show Ending.returned (Value.bool ((c:Int)+(e:Int)+(b:Int)==0))=_;congr 2;rw[aZ];simp;try omega)
  ·have y:(f.toList==[])=false:=by rw[oG,bG];intro l;rw[l]at i;exact i rfl
   have D:¬ f.toList=[]:=by simpa using y
   have g:Hid (h=false):=by unfold Hid;rw[<-a];unfold i4;simp[i]
   clear a;go_enter bR,bK;go_wp2;go_ret;exact⟨by rw[g.o];try rfl,k.o _⟩
 ·have C:((j:Int)==0)=false:=by simp;omega
  have g:Hid (h=false):=by unfold Hid;rw[<-a];unfold i4;simp[n]
  clear a;go_enter bR,bK;go_wp2;go_ret;exact⟨by rw[g.o];try rfl,k.o _⟩
theorem Hd(a:Int)(E:(a==0)=false)(F:(a==1)=false)(G:(a==2)=false)(H:(a==3)=false)(I:(a==4)=false)(J:(a==5)=false)(K:(a==6)=false)(L:(a==7)=false)(M:(a==8)=false)(N:(a==9)=false)(k:Int)(l:Nat)(i:ByteArray)(v:Option Addr)(g x:Nat)(y:Option Addr)(h z:Nat)(s:Option Addr)(f t:Nat)(w:World)(B:g<=200000)(C:h<=200000)(D:f<=200000) :
  Calls Tryz.prog 176 #[.agg #[.int .i64 a,.int .i64 k,.int .i64 (l:Int),.string i,.slice v g x,.slice y h z,.slice s f t]] w λn d=>n=.returned (.bool (i4 (decide (k=0)) (decide (l=0)) (decide (i.size=0)) (g+h+f)))/\Below w.heap.size w d:=by
 have m:Hid (∀q:Array Value,Below w.heap.size w (w.alloc (.cells q 67))):=λq=>(aj _ _).alloc (af _) _;obtain⟨e,b⟩:∃e,(i4 (decide (k=0)) (decide (l=0)) (decide (i.size=0)) (g+h+f))=e:=⟨_,rfl⟩;rw[b];by_cases p:k=0
 ·subst p;by_cases r:l=0
  ·subst r;by_cases j:i.size=0
   ·have u:=xJ j;clear j;subst u;have c:Hid (e=decide (g+h+f=0)):=by unfold Hid;rw[<-b];rfl
    clear b;go_enter bR,bK;go_wp2;go_ret;refine⟨?_,m.o _⟩;rw[c.o];first
     |rfl
     | (show Ending.returned (Value.bool ((g:Int)+(h:Int)+(f:Int)==0))=_;congr 2;rw[aZ];simp;try omega)
   ·have A:(i.toList==[])=false:=by rw[oG,bG];intro n;rw[n]at j;exact j rfl
    have Q:¬ i.toList=[]:=by simpa using A
    have c:Hid (e=false):=by unfold Hid;rw[<-b];unfold i4;simp[j]
    clear b;go_enter bR,bK;go_wp2;go_ret;exact⟨by rw[c.o];try rfl,m.o _⟩
  ·have P:((l:Int)==0)=false:=by simp;omega
   have c:Hid (e=false):=by unfold Hid;rw[<-b];unfold i4;simp[r]
   clear b;go_enter bR,bK;go_wp2;go_ret;exact⟨by rw[c.o];try rfl,m.o _⟩
 ·have O:(k==0)=false:=by simpa using p
  have c:Hid (e=false):=by unfold Hid;rw[<-b];unfold i4;simp[p]
  clear b;go_enter bR,bK;go_wp2;go_ret;exact⟨by rw[c.o];try rfl,m.o _⟩
end
section
variable{w:World}
theorem Da{P:Nat->Prop}{k:Nat}{O:Value}{a:gz (VT k)}(A:gR P (k+1) w O a)(l:a.items.length<=200000)(i:a.keys.length<=200000)(j:a.filters.length<=200000) :
  Calls Tryz.prog 176 #[O] w λd e=>d=.returned (.bool (lX a))/\Below w.heap.size w e:=by
 obtain⟨iv,kv,fv,vs,x,Q,L,R,M,K⟩:=A.parts;obtain⟨m,o,rfl⟩:=i_ L.1;obtain⟨q,r,rfl⟩:=i_ M.1;obtain⟨f,g,rfl⟩:=i_ K.1;clear A K L M R;unfold lX;unfold nV at x;have e1:(decide (a.text=[]))=decide ((gC a.text).size=0):=by rw[dN,DX,cU]
 have e2:∀{N:Decidable (a.items=[])},(@decide (a.items=[]) N)=decide (a.items.length=0):=by intro N;rw[dN,cU]
 have y:(decide (a.keys=[]))=decide (a.keys.length=0):=by rw[dN,cU]
 have z:(decide (a.filters=[]))=decide (a.filters.length=0):=by rw[dN,cU]
 rw[e1,e2,y,z];clear e1 e2 y z;rw[Q]at x;generalize a.n=t at *;generalize a.places=u at *;generalize gC a.text=v at *;generalize a.filters.length=h at *;generalize a.keys.length=s at *;generalize a.items.length=p at *;generalize a.kind=c at *;subst x;by_cases B:c=0
 ·subst B;refine(xX t u v m p o q s r f h g w l i j).mono ?_;rintro d e ⟨rfl,b⟩;refine⟨?_,b⟩;unfold i4;congr 2;rw[aZ];simp[fr];try omega
 have S:((c:Int)==0)=false:=by simp;omega
 by_cases C:c=1
 ·subst C;refine(xY t u v m p o q s r f h g w l i j).mono ?_;rintro d e ⟨rfl,b⟩;refine⟨?_,b⟩;unfold i4;congr 2;rw[aZ];simp[fr];try omega
 have T:((c:Int)==1)=false:=by simp;omega
 by_cases D:c=2
 ·subst D;refine(xZ t u v m p o q s r f h g w l i j).mono ?_;rintro d e ⟨rfl,b⟩;refine⟨?_,b⟩;unfold i4;congr 2;rw[aZ];simp[fr];try omega
 have U:((c:Int)==2)=false:=by simp;omega
 by_cases h3:c=3
 ·subst h3;refine(x8 t u v m p o q s r f h g w l i j).mono ?_;rintro d e ⟨rfl,b⟩;refine⟨?_,b⟩;unfold i4;congr 2;rw[aZ];simp[fr];try omega
 have V:((c:Int)==3)=false:=by simp;omega
 by_cases E:c=4
 ·subst E;refine(x_ t u v m p o q s r f h g w l i j).mono ?_;rintro d e ⟨rfl,b⟩;refine⟨?_,b⟩;unfold i4;congr 2;rw[aZ];simp[fr];try omega
 have W:((c:Int)==4)=false:=by simp;omega
 by_cases F:c=5
 ·subst F;refine(yb t u v m p o q s r f h g w l i j).mono ?_;rintro d e ⟨rfl,b⟩;refine⟨?_,b⟩;unfold i4;congr 2;rw[aZ];simp[fr];try omega
 have X:((c:Int)==5)=false:=by simp;omega
 by_cases G:c=6
 ·subst G;refine(yd t u v m p o q s r f h g w l i j).mono ?_;rintro d e ⟨rfl,b⟩;refine⟨?_,b⟩;unfold i4;congr 2;rw[aZ];simp[fr];try omega
 have Y:((c:Int)==6)=false:=by simp;omega
 by_cases H:c=7
 ·subst H;refine(ye t u v m p o q s r f h g w l i j).mono ?_;rintro d e ⟨rfl,b⟩;refine⟨?_,b⟩;unfold i4;congr 2;rw[aZ];simp[fr];try omega
 have Z:((c:Int)==7)=false:=by simp;omega
 by_cases I:c=8
 ·subst I;refine(yf t u v m p o q s r f h g w l i j).mono ?_;rintro d e ⟨rfl,b⟩;refine⟨?_,b⟩;unfold i4;congr 2;rw[aZ];simp[fr];try omega
 have t8:((c:Int)==8)=false:=by simp;omega
 by_cases J:c=9
 ·subst J;refine(yg t u v m p o q s r f h g w l i j).mono ?_;rintro d e ⟨rfl,b⟩;refine⟨?_,b⟩;unfold i4;congr 2;rw[aZ];simp[fr];try omega
 have t9:((c:Int)==9)=false:=by simp;omega
 refine(Hd (c:Int) S T U V W X Y Z t8 t9 t u v m p o q s r f h g w l i j).mono ?_;rintro d e ⟨rfl,b⟩;refine⟨?_,b⟩;unfold i4;congr 2;rw[aZ];simp[B,C,D,h3,E,F,G,H,I,J,fr];try omega
end
end Go.Proofs.YtgkljcmjnphpeaaGreatDoor
