/- opened: the document's first examples. -/
import Derived.Test.YtgkljcmjnphpeaaGreatDoorK30
import Derived.Test.YtgkljcmjnphpeaaGreatDoorK00
import Derived.Defers
import Derived.Recover
import Derived.Laws.Pointers
import Derived.Test.YtgkljcmjnphpeaaGreatDoorK31
import Derived.Laws.BytesArg
import Derived.Lib.SlBytesConst
set_option linter.unusedVariables false
set_option linter.unusedSimpArgs false
namespace Go.Proofs.YtgkljcmjnphpeaaGreatDoor
open Go.RowKit
variable {B br bf bd off cap : Nat} {d : List Nat} {most : Nat} {w : World}
theorem Rd.start (hbd : bd < w.heap.size) (hd : ∀ i, i < d.length → w.cell? ⟨bd, off + i, none⟩ = some (.int .u8 (nth d i : Nat))) (hb : ∀ i, i < d.length → nth d i < 256) (hc : d.length ≤ cap) (hl : cap ≤ 9223372036854775807) (hm : most ≤ 1000000) :
    Rd w.heap.size w.heap.size bd off cap d most (w.alloc (.cells #[.slice (some ⟨bd, off, none⟩) d.length cap, .int .i64 0, .slice none 0 0, .int .i64 most] 141 (0, 0))) 0 (.slice none 0 0) [] :=
  ⟨hbd, Nat.le_refl _, blk_new _ _, fun i hi => by rw [World.cell?_alloc_lt _ _ _ hbd]; exact hd i hi, World.ownsRow_nil _ _ _ _, hb, hc, hl, hm, Nat.zero_le _, Nat.zero_le _⟩
theorem keptBelowNew {e : Nat} {w w' : World} {o : Obj} (k : Kept e w.heap.size [w.heap.size] (w.alloc o) w') : Below w.heap.size w w' :=
  ((Below.refl _ _).alloc (Nat.le_refl _) o).trans (k.below (by simp) (by simp))
end Go.Proofs.YtgkljcmjnphpeaaGreatDoor
namespace Go.Proofs.YtgkljcmjnphpeaaGreatDoor
open Go.RowKit
variable {w : World}
theorem own_base {w : World} {B B' e n size : Nat} {v : Value} {xs : List Value} (h : w.ownsRow B e size v n xs) (hb : B' ≤ B) : w.ownsRow B' e size v n xs := by
  obtain ⟨h1, h2⟩ := h
  refine ⟨h1, ?_⟩
  rcases h2 with h2 | ⟨g, cap, cur, hv, hg, r⟩
  · exact Or.inl h2
  · exact Or.inr ⟨g, cap, cur, hv, by omega, r⟩
theorem own_far {w : World} {B e n size k : Nat} {v : Value} {xs : List Value} (h : w.ownsRow B e size v n xs) (hk : k < B) : v.ownBlock ≠ some k := by
  intro he; have := (h.lt k he).1; omega
theorem catch_idle (p q : Addr) (w : World) :
    CallsD Tryz.prog 79 #[.pointer (some p), .pointer (some q)] .returning w fun e u' w' => e = .returned (.tuple #[]) ∧ u' = .returning ∧ w' = w := by
  refine callsD_of_wpS Tryz.func79 rfl fun c₀ cs hu => ?_
  apply wpS_seq
  apply wpS_region
  simp [wpOpsS, go_sem, recoverD, hu, Tryz.ntmps79, Exit.thenS, Array.replicate]
  refine wpS_of_wp ?_
  go_wp2
  cases c₀
  simp_all [bodyPostS, results, Tryz.results79]
/-- The face, where the reader returns. -/
theorem decode_returns (f : Nat) (hf : 1 ≤ f ∧ f ≤ 4) (bd off cap : Nat) (d : List Nat) (most : Nat) (hm : most ≤ 1000000) (hd : d.length ≤ 200000) (l : List Nat)
    (hc : ∀ W : World, Below w.heap.size w W → w.heap.size ≤ W.heap.size → Calls Tryz.prog 80 #[.int .i64 f, .slice (some ⟨bd, off, none⟩) d.length cap, .int .i64 most] W fun e w' => ∃ v, e = .returned v ∧ w'.ownsRow W.heap.size 5 1 v l.length (l.map fun x : Nat => .int .u8 (x : Int)) ∧ Below W.heap.size W w') :
    Calls Tryz.prog 39 #[.int .i64 f, .slice (some ⟨bd, off, none⟩) d.length cap, .int .i64 most] w fun e w' => ∃ v, e = .returned (.tuple #[v, .int .i64 0]) ∧ w'.ownsRow w.heap.size 5 1 v l.length (l.map fun x : Nat => .int .u8 (x : Int)) ∧ Below w.heap.size w w' := by
  have hmf : ∀ (fn : Fn) (first cap : Array Value) (w : World), (Instr.makeFunc fn first cap).run Tryz.prog w = .ok (.func fn first cap) w := fun _ _ _ _ => rfl
  have HC := hide hc
  clear hc
  go_enter_defers Tryz.func39, Tryz.ntmps39
  go_wp2_with (go_at_call 63; refine (within_int_yes _ _ _ _ (by omega) (by omega)).mono ?_; rintro e w' ⟨rfl, rfl⟩)
  refine (HC.out _ (((Below.refl _ _).alloc (Nat.le_refl _) _).alloc (by simp) _) (by simp; omega)).mono ?_
  rintro e w1 ⟨v, rfl, hown, hb⟩
  obtain ⟨ao, oc, rfl⟩ := own_slice hown
  have c1 : w1.cell? ⟨w.heap.size, 0, none⟩ = some (.slice none 0 0) := by
    rw [hb.cell (p := ⟨w.heap.size, 0, none⟩) (by simp; omega), World.cell?_alloc_lt _ _ _ (by simp), World.cell?_alloc_new]; rfl
  have c2 : w1.cell? ⟨w.heap.size + 1, 0, none⟩ = some (.int .i64 0) := by
    rw [hb.cell (p := ⟨w.heap.size + 1, 0, none⟩) (by simp)]
    simp
  have f1 : w1.frozen? ⟨w.heap.size, 0, none⟩ = false := by
    rw [hb.frozen (p := ⟨w.heap.size, 0, none⟩) (by simp; omega), World.frozen?_alloc_old _ _ _ (by simp), World.frozen?_alloc_new]
  have f2 : w1.frozen? ⟨w.heap.size + 1, 0, none⟩ = false := by
    rw [hb.frozen (p := ⟨w.heap.size + 1, 0, none⟩) (by simp)]
    simp
  go_wp2
  refine leaves_cons (f := 79) (args := #[.pointer (some ⟨w.heap.size, 0, none⟩), .pointer (some ⟨w.heap.size + 1, 0, none⟩)]) (by simp) (by simp [go_sem]) ?_
  refine (catch_idle ⟨w.heap.size, 0, none⟩ ⟨w.heap.size + 1, 0, none⟩ _).mono ?_
  rintro e u' w'' ⟨rfl, rfl, rfl⟩
  simp [Leaves, settle, results, Tryz.results39, go_sem, c1, c2, f1, f2]
  simp only [World.size_alloc] at hown hb
  refine ⟨own_base (ownsRow_setCell_other (ownsRow_setCell_other hown (own_far hown (by simp; omega)) _) (own_far hown (by simp)) _) (by omega), ?_⟩
  exact (((((Below.refl _ _).alloc (Nat.le_refl _) _).alloc (by simp) _).trans (hb.mono (by omega))).setCell (by simp) _).setCell (by simp) _
end Go.Proofs.YtgkljcmjnphpeaaGreatDoor
namespace Go.Proofs.YtgkljcmjnphpeaaGreatDoor
open Go.RowKit
variable {w : World} {B cap : Nat} {data : List Nat} {ao : Option Addr}
/-- A first block of which too much comes out. -/
def BlockNo (most : Nat) (rr : List Bool) : Prop :=
  (∃ b r, rr = b :: (Fo.numBits 2 1 ++ r) ∧ Fo.PartsTo Fo.fixedC 32768 most r [] (.error 6)) ∨
  (∃ (b : Bool) (r r' : List Bool) (D : List Nat), rr = b :: (Fo.numBits 2 0 ++ r) ∧ 0 < D.length ∧ D.length ≤ 65535 ∧ (∀ i, i < D.length → nth D i < 256) ∧ r.drop (r.length % 8) = Fo.numBits 16 D.length ++ (Fo.numBits 16 (65535 - D.length) ++ (Fo.bitsOf D ++ r')) ∧ r'.length % 8 = 0 ∧ most < D.length)
/-- Blocks that are unpacked to the data. -/
structure Packed (data bl : List Nat) : Prop where
  unp : ∀ (most : Nat) (t : List Nat), data.length ≤ most → ∃ r, Blocks 32768 most (Fo.bitsOf (bl ++ t)) [] r data ∧ r.drop (r.length % 8) = Fo.bitsOf t
  no : ∀ (most : Nat) (t : List Nat), most < data.length → BlockNo most (Fo.bitsOf (bl ++ t))
end Go.Proofs.YtgkljcmjnphpeaaGreatDoor
namespace Go.Proofs.YtgkljcmjnphpeaaGreatDoor
open Go.RowKit
variable {w : World} {B cap n : Nat} {data : List Nat} {ao : Option Addr} {P : Value → World → Prop}
theorem face_encode (f : Nat) (hf : 1 ≤ f ∧ f ≤ 4) (hn : n ≤ 200000) (hc : Calls Tryz.prog 70 #[.int .i64 f, .slice ao n cap] w fun e w' => ∃ v, e = .returned v ∧ P v w') :
    Calls Tryz.prog 33 #[.int .i64 f, .slice ao n cap] w fun e w' => ∃ v, e = .returned (.tuple #[v, .int .i64 0]) ∧ P v w' := by
  have HC := hide hc
  clear hc
  go_enter Tryz.func33, Tryz.ntmps33
  go_wp2_with (go_at_call 63; refine (within_int_yes _ _ _ _ (by omega) (by omega)).mono ?_; rintro e w' ⟨rfl, rfl⟩)
  refine HC.out.mono ?_
  rintro e w1 ⟨v, rfl, hp⟩
  go_wp2
  exact bodyPost_ret (v := .tuple #[v, .int .i64 0]) (by simp [results, Tryz.results33, go_sem]) rfl ⟨v, rfl, hp⟩
end Go.Proofs.YtgkljcmjnphpeaaGreatDoor
namespace Go.Proofs.YtgkljcmjnphpeaaGreatDoor
open Go.RowKit
variable {B br bd off cap : Nat} {d : List Nat} {most : Nat} {w : World} {p : Nat} {ov : Value} {out : List Nat}
theorem decodeA85_short (h : Rd B br bd off cap d most w p ov out) (G : List Nat) (hG : G.length = 5) (n : Nat) (hn : 2 ≤ n) (hn2 : n ≤ 4) (hp : p + n + 2 = d.length) (hd : ∀ i, i < n → nth d (p + i) = nth G i) (hg : ∀ i, i < n → 33 ≤ nth G i ∧ nth G i ≤ 117)
    (he1 : nth d (p + n) = 126) (he2 : nth d (p + n + 1) = 62) (V : Nat) (hV : shortV (nth G 0) (nth G 1) (nth G 2) (nth G 3) n = V) (hm : V ≤ 4294967295) (ho : out.length + (n - 1) ≤ most) :
    Calls Tryz.prog 114 #[.pointer (some ⟨br, 0, none⟩)] w fun e w' => e = .returned (.tuple #[]) ∧ ∃ ov', Rd B br bd off cap d most w' d.length ov' (out ++ (a85Out V).take (n - 1)) ∧ Kept 5 B [br] w w' := by
  have HG := hide (a85Group_short h G hG n hn hn2 (by omega) hd hg he1 he2 V hV hm ho)
  rw [hp] at HG
  clear h hd hg he1 he2 hV
  go_enter Tryz.func114, Tryz.ntmps114
  go_wp2
  go_loopw [2] (fun _ wr => wr = w) (fun _ _ => 0)
  case atStart => rfl
  case round =>
    obtain rfl := hrel
    go_wp2_with fail
    refine HG.out.mono ?_
    rintro e w1 ⟨rfl, ov1, r1, k1⟩
    go_wp2_with fail
    refine (skipWhite_end r1).mono ?_
    rintro e w2 ⟨rfl, r2, k2⟩
    go_wp2_with fail
    refine (end_ok r2).mono ?_
    rintro e w3 ⟨rfl, q, rfl⟩
    go_wp2
    go_end0
    exact ⟨rfl, ov1, r2.drewN q, (k1.trans k2).drewN q⟩
theorem fenc3 {ao : Option Addr} {n : Nat} {P : Value → World → Prop} (hc : Calls Tryz.prog 103 #[.slice ao n cap] w fun e w' => ∃ v, e = .returned v ∧ P v w') :
    Calls Tryz.prog 70 #[.int .i64 3, .slice ao n cap] w fun e w' => ∃ v, e = .returned v ∧ P v w' := by
  have HC := hide hc
  clear hc
  go_enter Tryz.func70, Tryz.ntmps70
  go_wp2_with fail
  refine HC.out.mono ?_
  rintro e w1 ⟨v, rfl, hp⟩
  go_wp2
  go_ret
  exact ⟨v, rfl, hp⟩
theorem fdec2_short (hbd : bd < w.heap.size) (hdd : ∀ i, i < d.length → w.cell? ⟨bd, off + i, none⟩ = some (.int .u8 (nth d i : Nat))) (hb : ∀ i, i < d.length → nth d i < 256) (hc : d.length ≤ cap) (hlc : cap ≤ 9223372036854775807) (hm : most ≤ 1000000)
    (G : List Nat) (hG : G.length = 5) (n : Nat) (hn : 2 ≤ n) (hn2 : n ≤ 4) (hp : n + 2 = d.length) (hd : ∀ i, i < n → nth d i = nth G i) (hg : ∀ i, i < n → 33 ≤ nth G i ∧ nth G i ≤ 117)
    (he1 : nth d n = 126) (he2 : nth d (n + 1) = 62) (V : Nat) (hV : shortV (nth G 0) (nth G 1) (nth G 2) (nth G 3) n = V) (hVm : V ≤ 4294967295) (ho : n - 1 ≤ most) :
    Calls Tryz.prog 80 #[.int .i64 2, .slice (some ⟨bd, off, none⟩) d.length cap, .int .i64 most] w fun e w' => ∃ v, e = .returned v ∧ w'.ownsRow w.heap.size 5 1 v ((a85Out V).take (n - 1)).length (((a85Out V).take (n - 1)).map fun x : Nat => .int .u8 (x : Int)) ∧ Below w.heap.size w w' := by
  have R := Rd.start hbd hdd hb hc hlc hm
  have HC := hide (decodeA85_short R G hG n hn hn2 (by omega) (by simpa using hd) hg (by simpa using he1) (by simpa using he2) V hV hVm (by simpa using ho))
  rw [List.nil_append] at HC
  clear R hdd hb hd hg he1 he2 hV
  go_enter Tryz.func80, Tryz.ntmps80
  go_wp2_with fail
  refine HC.out.mono ?_
  rintro e w1 ⟨rfl, ov, r1, k1⟩
  have c2 := r1.c2
  go_wp2
  go_ret
  exact ⟨ov, rfl, r1.own, keptBelowNew k1⟩
end Go.Proofs.YtgkljcmjnphpeaaGreatDoor
namespace Go.Proofs.YtgkljcmjnphpeaaGreatDoor
open Go.RowKit
variable {w : World} {B : Nat}
/-- A string of bytes. -/
def strOf (l : List Nat) : ByteArray := strOfNums (l.map fun x : Nat => (x : Int))
theorem str_own {g n c : Nat} {l : List Nat} (h : w.ownsRow B 5 1 (.slice (some ⟨g, 0, none⟩) n c) n (l.map fun x : Nat => .int .u8 (x : Int))) : (convert 23 9 (.slice (some ⟨g, 0, none⟩) n c)).run Tryz.prog w = .ok (.string (strOf l)) w := by
  have hl : l.length = n := by have := h.1; simpa using this
  refine run_convert_bytes_arg w 23 5 Tryz.underlying23 Tryz.underlying5 g 0 n c _ (by rw [List.length_map]; exact hl) (fun i hi => ?_) 9 Tryz.underlying9
  have := h.cellAt i (by omega)
  rw [Nat.zero_add, this]
  simp [show i < l.length by omega]
theorem lit_dat (l : List Nat) (fz : Nat × Nat) : Dat (w.alloc (.cells (byteVals l).toArray 5 fz)) (w.heap.size + 1) (some ⟨w.heap.size, 0, none⟩) l := by
  intro i hi
  refine ⟨w.heap.size, 0, rfl, by omega, ?_⟩
  rw [Nat.zero_add, cell_blk (blk_new _ _)]
  simp [byteVals, nth, hi]
theorem encode_aab : Calls Tryz.prog 33 #[.int .i64 3, .slice (some ⟨w.heap.size, 0, none⟩) 3 3] (w.alloc (.cells #[.int .u8 97, .int .u8 97, .int .u8 98] 5 (3, 4))) fun e w' => ∃ v, e = .returned (.tuple #[v, .int .i64 0]) ∧ w'.ownsRow (w.heap.size + 1) 5 1 v 5 ([255, 97, 0, 98, 128].map fun x : Nat => .int .u8 (x : Int)) ∧ Below (w.heap.size + 1) (w.alloc (.cells #[.int .u8 97, .int .u8 97, .int .u8 98] 5 (3, 4))) w' := by
  refine face_encode (P := fun v w' => w'.ownsRow (w.heap.size + 1) 5 1 v 5 ([255, 97, 0, 98, 128].map fun x : Nat => .int .u8 (x : Int)) ∧ Below (w.heap.size + 1) (w.alloc (.cells #[.int .u8 97, .int .u8 97, .int .u8 98] 5 (3, 4))) w') 3 (by omega) (by omega) (fenc3 ?_)
  have hd := lit_dat (w := w) [97, 97, 98] (3, 4)
  have := encodeRun_some (cap := 3) hd (by simp) (by intro i hi; have : i < 3 := hi; match i, this with | 0, _ => decide | 1, _ => decide | 2, _ => decide) (by decide) (by decide)
  rw [Fo.encRun_aab] at this
  refine this.mono ?_
  rintro e w' ⟨v, rfl, h1, h2⟩
  exact ⟨v, rfl, h1, h2.below (by simp) (by simp)⟩
theorem decode_hi : Calls Tryz.prog 39 #[.int .i64 2, .slice (some ⟨w.heap.size, 0, none⟩) 5 5, .int .i64 2] (w.alloc (.cells #[.int .u8 56, .int .u8 56, .int .u8 47, .int .u8 126, .int .u8 62] 5 (5, 6))) fun e w' => ∃ v, e = .returned (.tuple #[v, .int .i64 0]) ∧ w'.ownsRow (w.heap.size + 1) 5 1 v 2 ([72, 105].map fun x : Nat => .int .u8 (x : Int)) ∧ Below (w.heap.size + 1) (w.alloc (.cells #[.int .u8 56, .int .u8 56, .int .u8 47, .int .u8 126, .int .u8 62] 5 (5, 6))) w' := by
  have hd := lit_dat (w := w) [56, 56, 47, 126, 62] (5, 6)
  have hs : (w.alloc (.cells #[.int .u8 56, .int .u8 56, .int .u8 47, .int .u8 126, .int .u8 62] 5 (5, 6))).heap.size = w.heap.size + 1 := by simp
  have := decode_returns (w := w.alloc (.cells #[.int .u8 56, .int .u8 56, .int .u8 47, .int .u8 126, .int .u8 62] 5 (5, 6))) 2 (by omega) w.heap.size 0 5 [56, 56, 47, 126, 62] 2 (by omega) (by decide) [72, 105] ?_
  · rw [hs] at this
    exact this
  · intro W hb hsz
    rw [hs] at hb hsz
    have := fdec2_short (w := W) (bd := w.heap.size) (off := 0) (cap := 5) (d := [56, 56, 47, 126, 62]) (most := 2) (by omega) ?_ ?_ (by decide) (by decide) (by omega) [56, 56, 47, 0, 0] rfl 3 (by omega) (by omega) rfl ?_ ?_ rfl rfl 1214847624 (by decide) (by omega) (by omega)
    · exact this
    · intro i hi
      obtain ⟨b, o, e1, e2, e3⟩ := hd i hi
      cases e1
      exact (hb.cell (p := ⟨w.heap.size, 0 + i, none⟩) (by show w.heap.size < _; omega)).trans e3
    · intro i hi
      have : i < 5 := hi
      match i, this with
      | 0, _ => decide
      | 1, _ => decide
      | 2, _ => decide
      | 3, _ => decide
      | 4, _ => decide
    · intro i hi
      match i, hi with
      | 0, _ => rfl
      | 1, _ => rfl
      | 2, _ => rfl
    · intro i hi
      match i, hi with
      | 0, _ => decide
      | 1, _ => decide
      | 2, _ => decide
set_option maxRecDepth 100000 in
set_option maxHeartbeats 1000000 in
theorem opened_ok (w : World) : Calls Tryz.prog 22 #[] w fun e w' => e = .returned (.bool true) ∧ Below w.heap.size w w' := by
  have H1 := hide (encode_aab (w := w))
  have hcs := fun (W : World) (C : Array Value) (n c : Nat) => Lib.run_convert_bytes_const (P := Tryz.prog) W 23 5 C n c Tryz.underlying23 Tryz.underlying5
  go_enter Tryz.func22, Tryz.ntmps22
  go_wp2_with fail
  refine H1.out.mono ?_
  rintro e w1 ⟨v, rfl, own1, b1⟩
  obtain ⟨g, c, rfl, hg⟩ := own_form own1 (by omega)
  have O1 := hide own1
  have B1 := hide (((Below.refl w.heap.size w).alloc (Nat.le_refl _) (.cells #[.int .u8 97, .int .u8 97, .int .u8 98] 5 (3, 4))).trans (b1.mono (by omega)))
  have hs1 := B1.out.size
  have hgl := (own1.lt g rfl).2
  clear own1 b1 H1
  have H2 := hide (decode_hi (w := w1))
  go_wp2_with fail
  refine H2.out.mono ?_
  rintro e w2 ⟨v, rfl, own2, b2⟩
  obtain ⟨g2, c2, rfl, hg2⟩ := own_form own2 (by omega)
  have B12 : Below w1.heap.size w1 w2 := ((Below.refl _ _).alloc (Nat.le_refl _) (.cells #[.int .u8 56, .int .u8 56, .int .u8 47, .int .u8 126, .int .u8 62] 5 (5, 6))).trans (b2.mono (by omega))
  have O12 := own_below O1.out B12
  have s1 : (convert 23 9 (.slice (some ⟨g, 0, none⟩) 5 c)).run Tryz.prog w2 = .ok (.string { data := #[255, 97, 0, 98, 128] }) w2 := str_own O12
  have s2 : (convert 23 9 (.slice (some ⟨g2, 0, none⟩) 2 c2)).run Tryz.prog w2 = .ok (.string { data := #[72, 105] }) w2 := str_own own2
  have B2 := hide (B1.out.trans (B12.mono hs1))
  clear own2 b2 O1 O12 B12 H2 B1
  go_wp2
  go_ret
  exact ⟨rfl, B2.out⟩
end Go.Proofs.YtgkljcmjnphpeaaGreatDoor
