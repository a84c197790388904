import Derived.Test.YtgkljcmjnphpeaaGreatDoorK28
import Derived.Lib.SlBytesConst
set_option linter.unusedVariables false
set_option linter.unusedSimpArgs false
set_option maxHeartbeats 1000000
set_option maxRecDepth 100000
namespace Go.Proofs.YtgkljcmjnphpeaaGreatDoor
open Go.RowKit
section
variable{B b bd off cap:Nat}{d:List Nat}{most:Nat}{w:World}{p:Nat}{c:Value}{a:List Nat}
theorem Ik(k:Rd B b bd off cap d most w p c a)(f:List Nat)(v:f.length=5)(e:Nat)(y:2<=e)(z:e<=4)(C:p+e+2=d.length)(m:∀g,g<e->nth d (p+g)=nth f g)(r:∀g,g<e->33<=nth f g/\nth f g<=117)
  (n:nth d (p+e)=126) (q:nth d (p+e+1)=62) (h:Nat) (l:sZ (nth f 0) (nth f 1) (nth f 2) (nth f 3) e=h) (x:h<=4294967295) (A:a.length+(e-1)<=most) :
  Calls Tryz.prog 114 #[.pointer (some ⟨b,0,none⟩)] w λi u=>i=.returned (.tuple #[])/\∃F,Rd B b bd off cap d most u d.length F (a++(aO h).take (e-1))/\gD 5 B [b] w u:=by
 have j:=gv (EM k f v e y z (by omega) m r n q h l x A);rw[C]at j;clear k m r n q l;go_enter Tryz.func114,Tryz.ntmps114;go_wp2;go_loopw [2] (λ_ wr=>wr=w) (λ_ _=>0)
 case atStart=>rfl
 case round =>
  obtain rfl:=hrel;go_wp2_with fail;refine j.o.mono ?_;rintro i I ⟨rfl,G,H,D⟩;go_wp2_with fail;refine(Ba H).mono ?_;rintro i J ⟨rfl,t,E⟩;go_wp2_with fail;refine(eo t).mono ?_;rintro i K ⟨rfl,s,rfl⟩;go_wp2
  go_end0
  exact⟨rfl,G,t.drewN s,(D.trans E).drewN s⟩
theorem xr{ao:Option Addr}{n:Nat}{P:Value->World->Prop}(h:Calls Tryz.prog 103 #[.slice ao n cap] w λf g=>∃e,f=.returned e/\P e g) :
  Calls Tryz.prog 70 #[.int .i64 3,.slice ao n cap] w λf g=>∃e,f=.returned e/\P e g:=by
 have i:=gv h;clear h;go_enter Tryz.func70,Tryz.ntmps70;go_wp2_with fail;refine i.o.mono ?_;rintro f k ⟨e,rfl,j⟩;go_wp2;go_ret;exact⟨e,rfl,j⟩
theorem I2(A:bd<w.heap.size)(q:∀e,e<d.length->w.cell? ⟨bd,off+e,none⟩=some (.int .u8 (nth d e:Nat)))(m:∀e,e<d.length->nth d e<256)(C:d.length<=cap)(D:cap<=9223372036854775807)(E:most<=1000000)
  (g:List Nat) (y:g.length=5) (f:Nat) (F:2<=f) (G:f<=4) (L:f+2=d.length) (n:∀e,e<f->nth d e=nth g e) (t:∀e,e<f->33<=nth g e/\nth g e<=117)
  (r:nth d f=126) (s:nth d (f+1)=62) (h:Nat) (l:sZ (nth g 0) (nth g 1) (nth g 2) (nth g 3) f=h) (z:h<=4294967295) (H:f-1<=most) :
  Calls Tryz.prog 80 #[.int .i64 2,.slice (some ⟨bd,off,none⟩) d.length cap,.int .i64 most] w λk x=>∃v,k=.returned v/\x.ownsRow w.heap.size 5 1 v ((aO h).take (f-1)).length (((aO h).take (f-1)).map λJ:Nat=>.int .u8 (J:Int))/\Below w.heap.size w x:=by
 have j:=Rd.start A q m C D E;have i:=gv (Ik j g y f F G (by omega) (by simpa using n) t (by simpa using r) (by simpa using s) h l z (by simpa using H));rw[cC]at i;clear j q m n t r s l;go_enter eX,eJ;go_wp2_with fail;refine i.o.mono ?_;rintro k M ⟨rfl,c,u,I⟩;have K:=u.c2;go_wp2;go_ret;exact⟨c,rfl,u.own,wC I⟩
end
section
variable{w:World}{B:Nat}
def Bl(a:List Nat):ByteArray:=strOfNums (a.map λb:Nat=>(b:Int))
theorem GB{d a c:Nat}{b:List Nat}(e:w.ownsRow B 5 1 (.slice (some ⟨d,0,none⟩) a c) a (b.map λh:Nat=>.int .u8 (h:Int))):(convert 23 9 (.slice (some ⟨d,0,none⟩) a c)).run Tryz.prog w=.ok (.string (Bl b)) w:=by
 have g:b.length=a:=by have:=e.1;simpa using this
 refine run_convert_bytes_arg w 23 5 aq dH d 0 a c _ (by rw[av];exact g) (λf i=>?_) 9 cN;have:=e.cellAt f (by omega);rw[b_,this];simp[show f<b.length by omega]
theorem ld(a:List Nat)(b:Nat × Nat):nA (w.alloc (.cells (bV a).toArray 5 b)) (w.heap.size+1) (some ⟨w.heap.size,0,none⟩) a:=by intro d c;refine⟨w.heap.size,0,rfl,by omega,?_⟩;rw[b_,cb (jd _ _)];simp[bV,nth,c]
theorem IOx:Calls Tryz.prog 33 #[.int .i64 3,.slice (some ⟨w.heap.size,0,none⟩) 3 3] (w.alloc (.cells #[.int .u8 97,.int .u8 97,.int .u8 98] 5 (3,4))) λd b=>∃a,d=.returned (.tuple #[a,.int .i64 0])/\b.ownsRow (w.heap.size+1) 5 1 a 5 ([255,97,0,98,128].map λc:Nat=>.int .u8 (c:Int))/\Below (w.heap.size+1) (w.alloc (.cells #[.int .u8 97,.int .u8 97,.int .u8 98] 5 (3,4))) b:=by refine fe (P:=λa b=>b.ownsRow (w.heap.size+1) 5 1 a 5 ([255,97,0,98,128].map λc:Nat=>.int .u8 (c:Int))/\Below (w.heap.size+1) (w.alloc (.cells #[.int .u8 97,.int .u8 97,.int .u8 98] 5 (3,4))) b) 3 (by omega) (by omega) (xr ?_);have h:=ld (w:=w) [97,97,98] (3,4);have:=Fj (cap:=3) h (by simp) (by intro e i;have:e<3:=i;match e,this with | 0,_=>decide | 1,_=>decide | 2,_=>decide) (by decide) (by decide);rw[rq]at this;refine this.mono ?_;rintro d b ⟨a,rfl,f,g⟩;exact⟨a,rfl,f,g.below (by simp) (by simp)⟩
theorem dh:Calls Tryz.prog 39 #[.int .i64 2,.slice (some ⟨w.heap.size,0,none⟩) 5 5,.int .i64 2] (w.alloc (.cells #[.int .u8 56,.int .u8 56,.int .u8 47,.int .u8 126,.int .u8 62] 5 (5,6))) λj h=>∃g,j=.returned (.tuple #[g,.int .i64 0])/\h.ownsRow (w.heap.size+1) 5 1 g 2 ([72,105].map λn:Nat=>.int .u8 (n:Int))/\Below (w.heap.size+1) (w.alloc (.cells #[.int .u8 56,.int .u8 56,.int .u8 47,.int .u8 126,.int .u8 62] 5 (5,6))) h:=by
 have l:=ld (w:=w) [56,56,47,126,62] (5,6);have f:(w.alloc (.cells #[.int .u8 56,.int .u8 56,.int .u8 47,.int .u8 126,.int .u8 62] 5 (5,6))).heap.size=w.heap.size+1:=by simp
 have:=Ix (w:=w.alloc (.cells #[.int .u8 56,.int .u8 56,.int .u8 47,.int .u8 126,.int .u8 62] 5 (5,6))) 2 (by omega) w.heap.size 0 5 [56,56,47,126,62] 2 (by omega) (by decide) [72,105] ?_
 ·rw[f]at this;exact this
 ·intro i e m;rw[f]at e m;have:=I2 (w:=i) (bd:=w.heap.size) (off:=0) (cap:=5) (d:=[56,56,47,126,62]) (most:=2) (by omega) ?_ ?_ (by decide) (by decide) (by omega) [56,56,47,0,0] rfl 3 (by omega) (by omega) rfl ?_ ?_ rfl rfl 1214847624 (by decide) (by omega) (by omega);·exact this
  ·intro a c;obtain⟨b,o,e1,e2,k⟩:=l a c;cases e1;exact(e.cell (p:=⟨w.heap.size,0+a,none⟩) (by show w.heap.size<_;omega)).trans k
  ·intro a c;have:a<5:=c;match a,this with
   |0,_=>decide
   |1,_=>decide
   |2,_=>decide
   |3,_=>decide
   |4,_=>decide
  ·intro a c;match a,c with
   |0,_=>rfl
   |1,_=>rfl
   |2,_=>rfl
  ·intro a c;match a,c with
   |0,_=>decide
   |1,_=>decide
   |2,_=>decide
theorem JM(w:World):Calls Tryz.prog 22 #[] w λf z=>f=.returned (.bool true)/\Below w.heap.size w z:=by have i:=gv (IOx (w:=w));have A:=λ(s:World) (r:Array Value) (x e:Nat)=>Lib.run_convert_bytes_const (P:= Tryz.prog) s 23 5 r x e aq dH;go_enter Tryz.func22,Tryz.ntmps22;go_wp2_with fail;refine i.o.mono ?_;rintro f h ⟨y,rfl,b,m⟩;obtain⟨p,e,rfl,C⟩:=ut b (by omega);have k:=gv b;have c:=gv (((aj w.heap.size w).alloc (af _) (.cells #[.int .u8 97,.int .u8 97,.int .u8 98] 5 (3,4))).trans (m.mono (by omega)));have v:=c.o.size;have E:=(b.lt p rfl).2;clear b m i;have j:=gv (dh (w:=h));go_wp2_with fail;refine j.o.mono ?_;rintro f a ⟨y,rfl,g,n⟩;obtain⟨u,t,rfl,D⟩:=ut g (by omega);have d:Below h.heap.size h a:=((aj _ _).alloc (af _) (.cells #[.int .u8 56,.int .u8 56,.int .u8 47,.int .u8 126,.int .u8 62] 5 (5,6))).trans (n.mono (by omega));have l:=sY k.o d;have F:(convert 23 9 (.slice (some ⟨p,0,none⟩) 5 e)).run Tryz.prog a=.ok (.string { data:=#[255,97,0,98,128] }) a:=GB l;have G:(convert 23 9 (.slice (some ⟨u,0,none⟩) 2 t)).run Tryz.prog a=.ok (.string { data:=#[72,105] }) a:=GB g;have q:=gv (c.o.trans (d.mono v));clear g n k l d j c;go_wp2;go_ret;exact⟨rfl,q.o⟩
end
end Go.Proofs.YtgkljcmjnphpeaaGreatDoor
