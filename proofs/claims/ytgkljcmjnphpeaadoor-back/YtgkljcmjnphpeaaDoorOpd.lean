/- opened: the document's first examples. -/
import Derived.Test.YtgkljcmjnphpeaaDoorA85G
import Derived.Test.YtgkljcmjnphpeaaDoorRunW
import Derived.Test.YtgkljcmjnphpeaaDoorEnc
import Derived.Laws.BytesArg
import Derived.Lib.SlBytesConst
set_option linter.unusedVariables false
set_option linter.unusedSimpArgs false
namespace Go.Proofs.YtgkljcmjnphpeaaDoor
open Go.RowKit
variable {B br bd off cap : Nat} {d : List Nat} {most : Nat} {w : World} {p : Nat} {ov : Value} {out : List Nat}

theorem decodeA85_short (h : Rd B br bd off cap d most w p ov out) (G : List Nat) (hG : G.length = 5) (n : Nat) (hn : 2 ≤ n) (hn2 : n ≤ 4) (hp : p + n + 2 = d.length) (hd : ∀ i, i < n → nth d (p + i) = nth G i) (hg : ∀ i, i < n → 33 ≤ nth G i ∧ nth G i ≤ 117)
    (he1 : nth d (p + n) = 126) (he2 : nth d (p + n + 1) = 62) (V : Nat) (hV : shortV (nth G 0) (nth G 1) (nth G 2) (nth G 3) n = V) (hm : V ≤ 4294967295) (ho : out.length + (n - 1) ≤ most) :
    Calls Tryd.prog 20 #[.pointer (some ⟨br, 0, none⟩)] w fun e w' => e = .returned (.tuple #[]) ∧ ∃ ov', Rd B br bd off cap d most w' d.length ov' (out ++ (a85Out V).take (n - 1)) ∧ Kept 5 B [br] w w' := by
  have HG := hide (a85Group_short h G hG n hn hn2 (by omega) hd hg he1 he2 V hV hm ho)
  rw [hp] at HG
  clear h hd hg he1 he2 hV
  go_enter Tryd.func20, Tryd.ntmps20
  go_wp2
  go_loopw [2] (fun _ wr => wr = w) (fun _ _ => 0)
  case atStart => rfl
  case round =>
    obtain rfl := hrel
    go_wp2_with fail
    refine HG.out.mono ?_
    rintro e w1 ⟨rfl, ov1, r1, k1⟩
    go_wp2_with fail
    refine (skipWhite_end r1).mono ?_
    rintro e w2 ⟨rfl, r2, k2⟩
    go_wp2_with fail
    refine (end_ok r2).mono ?_
    rintro e w3 ⟨rfl, q, rfl⟩
    go_wp2
    go_end0
    exact ⟨rfl, ov1, r2.drewN q, (k1.trans k2).drewN q⟩

theorem fenc3 {ao : Option Addr} {n : Nat} {P : Value → World → Prop} (hc : Calls Tryd.prog 17 #[.slice ao n cap] w fun e w' => ∃ v, e = .returned v ∧ P v w') :
    Calls Tryd.prog 11 #[.int .i64 3, .slice ao n cap] w fun e w' => ∃ v, e = .returned v ∧ P v w' := by
  have HC := hide hc
  clear hc
  go_enter Tryd.func11, Tryd.ntmps11
  go_wp2_with fail
  refine HC.out.mono ?_
  rintro e w1 ⟨v, rfl, hp⟩
  go_wp2
  go_ret
  exact ⟨v, rfl, hp⟩

theorem fdec2_short (hbd : bd < w.heap.size) (hdd : ∀ i, i < d.length → w.cell? ⟨bd, off + i, none⟩ = some (.int .u8 (nth d i : Nat))) (hb : ∀ i, i < d.length → nth d i < 256) (hc : d.length ≤ cap) (hlc : cap ≤ 9223372036854775807) (hm : most ≤ 1000000)
    (G : List Nat) (hG : G.length = 5) (n : Nat) (hn : 2 ≤ n) (hn2 : n ≤ 4) (hp : n + 2 = d.length) (hd : ∀ i, i < n → nth d i = nth G i) (hg : ∀ i, i < n → 33 ≤ nth G i ∧ nth G i ≤ 117)
    (he1 : nth d n = 126) (he2 : nth d (n + 1) = 62) (V : Nat) (hV : shortV (nth G 0) (nth G 1) (nth G 2) (nth G 3) n = V) (hVm : V ≤ 4294967295) (ho : n - 1 ≤ most) :
    Calls Tryd.prog 14 #[.int .i64 2, .slice (some ⟨bd, off, none⟩) d.length cap, .int .i64 most] w fun e w' => ∃ v, e = .returned v ∧ w'.ownsRow w.heap.size 5 1 v ((a85Out V).take (n - 1)).length (((a85Out V).take (n - 1)).map fun x : Nat => .int .u8 (x : Int)) ∧ Below w.heap.size w w' := by
  have R := Rd.start hbd hdd hb hc hlc hm
  have HC := hide (decodeA85_short R G hG n hn hn2 (by omega) (by simpa using hd) hg (by simpa using he1) (by simpa using he2) V hV hVm (by simpa using ho))
  rw [List.nil_append] at HC
  clear R hdd hb hd hg he1 he2 hV
  go_enter Tryd.func14, Tryd.ntmps14
  go_wp2_with fail
  refine HC.out.mono ?_
  rintro e w1 ⟨rfl, ov, r1, k1⟩
  have c2 := r1.c2
  go_wp2
  go_ret
  exact ⟨ov, rfl, r1.own, keptBelowNew k1⟩
end Go.Proofs.YtgkljcmjnphpeaaDoor
namespace Go.Proofs.YtgkljcmjnphpeaaDoor
open Go.RowKit
variable {w : World} {B : Nat}

/-- A string of bytes. -/
def strOf (l : List Nat) : ByteArray := strOfNums (l.map fun x : Nat => (x : Int))

theorem str_own {g n c : Nat} {l : List Nat} (h : w.ownsRow B 5 1 (.slice (some ⟨g, 0, none⟩) n c) n (l.map fun x : Nat => .int .u8 (x : Int))) : (convert 22 9 (.slice (some ⟨g, 0, none⟩) n c)).run Tryd.prog w = .ok (.string (strOf l)) w := by
  have hl : l.length = n := by have := h.1; simpa using this
  refine run_convert_bytes_arg w 22 5 Tryd.underlying22 Tryd.underlying5 g 0 n c _ (by rw [List.length_map]; exact hl) (fun i hi => ?_) 9 Tryd.underlying9
  have := h.cellAt i (by omega)
  rw [Nat.zero_add, this]
  simp [show i < l.length by omega]

theorem lit_dat (l : List Nat) (fz : Nat × Nat) : Dat (w.alloc (.cells (byteVals l).toArray 5 fz)) (w.heap.size + 1) (some ⟨w.heap.size, 0, none⟩) l := by
  intro i hi
  refine ⟨w.heap.size, 0, rfl, by omega, ?_⟩
  rw [Nat.zero_add, cell_blk (blk_new _ _)]
  simp [byteVals, nth, hi]

theorem encode_aab : Calls Tryd.prog 7 #[.int .i64 3, .slice (some ⟨w.heap.size, 0, none⟩) 3 3] (w.alloc (.cells #[.int .u8 97, .int .u8 97, .int .u8 98] 5 (3, 4))) fun e w' => ∃ v, e = .returned (.tuple #[v, .int .i64 0]) ∧ w'.ownsRow (w.heap.size + 1) 5 1 v 5 ([255, 97, 0, 98, 128].map fun x : Nat => .int .u8 (x : Int)) ∧ Below (w.heap.size + 1) (w.alloc (.cells #[.int .u8 97, .int .u8 97, .int .u8 98] 5 (3, 4))) w' := by
  refine face_encode (P := fun v w' => w'.ownsRow (w.heap.size + 1) 5 1 v 5 ([255, 97, 0, 98, 128].map fun x : Nat => .int .u8 (x : Int)) ∧ Below (w.heap.size + 1) (w.alloc (.cells #[.int .u8 97, .int .u8 97, .int .u8 98] 5 (3, 4))) w') 3 (by omega) (by omega) (fenc3 ?_)
  have hd := lit_dat (w := w) [97, 97, 98] (3, 4)
  have := encodeRun_some (cap := 3) hd (by simp) (by intro i hi; have : i < 3 := hi; match i, this with | 0, _ => decide | 1, _ => decide | 2, _ => decide) (by decide) (by decide)
  rw [Fo.encRun_aab] at this
  refine this.mono ?_
  rintro e w' ⟨v, rfl, h1, h2⟩
  exact ⟨v, rfl, h1, h2.below (by simp) (by simp)⟩

theorem decode_hi : Calls Tryd.prog 8 #[.int .i64 2, .slice (some ⟨w.heap.size, 0, none⟩) 5 5, .int .i64 2] (w.alloc (.cells #[.int .u8 56, .int .u8 56, .int .u8 47, .int .u8 126, .int .u8 62] 5 (5, 6))) fun e w' => ∃ v, e = .returned (.tuple #[v, .int .i64 0]) ∧ w'.ownsRow (w.heap.size + 1) 5 1 v 2 ([72, 105].map fun x : Nat => .int .u8 (x : Int)) ∧ Below (w.heap.size + 1) (w.alloc (.cells #[.int .u8 56, .int .u8 56, .int .u8 47, .int .u8 126, .int .u8 62] 5 (5, 6))) w' := by
  have hd := lit_dat (w := w) [56, 56, 47, 126, 62] (5, 6)
  have hs : (w.alloc (.cells #[.int .u8 56, .int .u8 56, .int .u8 47, .int .u8 126, .int .u8 62] 5 (5, 6))).heap.size = w.heap.size + 1 := by simp
  have := decode_returns (w := w.alloc (.cells #[.int .u8 56, .int .u8 56, .int .u8 47, .int .u8 126, .int .u8 62] 5 (5, 6))) 2 (by omega) w.heap.size 0 5 [56, 56, 47, 126, 62] 2 (by omega) (by decide) [72, 105] ?_
  · rw [hs] at this
    exact this
  · intro W hb hsz
    rw [hs] at hb hsz
    have := fdec2_short (w := W) (bd := w.heap.size) (off := 0) (cap := 5) (d := [56, 56, 47, 126, 62]) (most := 2) (by omega) ?_ ?_ (by decide) (by decide) (by omega) [56, 56, 47, 0, 0] rfl 3 (by omega) (by omega) rfl ?_ ?_ rfl rfl 1214847624 (by decide) (by omega) (by omega)
    · exact this
    · intro i hi
      obtain ⟨b, o, e1, e2, e3⟩ := hd i hi
      cases e1
      exact (hb.cell (p := ⟨w.heap.size, 0 + i, none⟩) (by show w.heap.size < _; omega)).trans e3
    · intro i hi
      have : i < 5 := hi
      match i, this with
      | 0, _ => decide
      | 1, _ => decide
      | 2, _ => decide
      | 3, _ => decide
      | 4, _ => decide
    · intro i hi
      match i, hi with
      | 0, _ => rfl
      | 1, _ => rfl
      | 2, _ => rfl
    · intro i hi
      match i, hi with
      | 0, _ => decide
      | 1, _ => decide
      | 2, _ => decide

set_option maxRecDepth 100000 in
set_option maxHeartbeats 1000000 in
theorem opened_ok (w : World) : Calls Tryd.prog 5 #[] w fun e w' => e = .returned (.bool true) ∧ Below w.heap.size w w' := by
  have H1 := hide (encode_aab (w := w))
  have hcs := fun (W : World) (C : Array Value) (n c : Nat) => Lib.run_convert_bytes_const (P := Tryd.prog) W 22 5 C n c Tryd.underlying22 Tryd.underlying5
  go_enter Tryd.func5, Tryd.ntmps5
  go_wp2_with fail
  refine H1.out.mono ?_
  rintro e w1 ⟨v, rfl, own1, b1⟩
  obtain ⟨g, c, rfl, hg⟩ := own_form own1 (by omega)
  have O1 := hide own1
  have B1 := hide (((Below.refl w.heap.size w).alloc (Nat.le_refl _) (.cells #[.int .u8 97, .int .u8 97, .int .u8 98] 5 (3, 4))).trans (b1.mono (by omega)))
  have hs1 := B1.out.size
  have hgl := (own1.lt g rfl).2
  clear own1 b1 H1
  have H2 := hide (decode_hi (w := w1))
  go_wp2_with fail
  refine H2.out.mono ?_
  rintro e w2 ⟨v, rfl, own2, b2⟩
  obtain ⟨g2, c2, rfl, hg2⟩ := own_form own2 (by omega)
  have B12 : Below w1.heap.size w1 w2 := ((Below.refl _ _).alloc (Nat.le_refl _) (.cells #[.int .u8 56, .int .u8 56, .int .u8 47, .int .u8 126, .int .u8 62] 5 (5, 6))).trans (b2.mono (by omega))
  have O12 := own_below O1.out B12
  have s1 : (convert 22 9 (.slice (some ⟨g, 0, none⟩) 5 c)).run Tryd.prog w2 = .ok (.string { data := #[255, 97, 0, 98, 128] }) w2 := str_own O12
  have s2 : (convert 22 9 (.slice (some ⟨g2, 0, none⟩) 2 c2)).run Tryd.prog w2 = .ok (.string { data := #[72, 105] }) w2 := str_own own2
  have B2 := hide (B1.out.trans (B12.mono hs1))
  clear own2 b2 O1 O12 B12 H2 B1
  go_wp2
  go_ret
  exact ⟨rfl, B2.out⟩
end Go.Proofs.YtgkljcmjnphpeaaDoor
