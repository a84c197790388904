/- filters.Encode by filters 1 and 4; folio.Encode. -/
import Derived.Test.YtgkljcmjnphpeaaDoorDCoded
import Derived.Test.YtgkljcmjnphpeaaDoorSBlk
import Derived.Test.YtgkljcmjnphpeaaDoorFace
import Derived.Test.YtgkljcmjnphpeaaDoorHexE
set_option linter.unusedVariables false
set_option linter.unusedSimpArgs false
namespace Go.Proofs.YtgkljcmjnphpeaaDoor
open Go.RowKit
variable {w : World} {B cap : Nat} {data : List Nat} {ao : Option Addr}

/-- A first block of which too much comes out. -/
def BlockNo (most : Nat) (rr : List Bool) : Prop :=
  (∃ b r, rr = b :: (Fo.numBits 2 1 ++ r) ∧ Fo.PartsTo Fo.fixedC 32768 most r [] (.error 6)) ∨
  (∃ (b : Bool) (r r' : List Bool) (D : List Nat), rr = b :: (Fo.numBits 2 0 ++ r) ∧ 0 < D.length ∧ D.length ≤ 65535 ∧ (∀ i, i < D.length → nth D i < 256) ∧ r.drop (r.length % 8) = Fo.numBits 16 D.length ++ (Fo.numBits 16 (65535 - D.length) ++ (Fo.bitsOf D ++ r')) ∧ r'.length % 8 = 0 ∧ most < D.length)
/-- Blocks that are unpacked to the data. -/
structure Packed (data bl : List Nat) : Prop where
  to : ∀ (most : Nat) (t : List Nat), data.length ≤ most → ∃ r, Blocks 32768 most (Fo.bitsOf (bl ++ t)) [] r data ∧ r.drop (r.length % 8) = Fo.bitsOf t
  no : ∀ (most : Nat) (t : List Nat), most < data.length → BlockNo most (Fo.bitsOf (bl ++ t))

theorem packed_fixed {out : List Nat} {used : Nat} {eb : List Bool} (hb : Fo.BW out used (fixedBits eb)) (he : Fo.Enc data data.length eb) : Packed data out := by
  obtain ⟨h1, h2, h3, h4⟩ := hb
  have e : ∀ t, fixedBits eb ++ List.replicate ((8 - used) % 8) false ++ Fo.bitsOf t = true :: (Fo.numBits 2 1 ++ (eb ++ (Fo.codeBits Fo.tabF 256 ++ (List.replicate ((8 - used) % 8) false ++ Fo.bitsOf t)))) := by
    intro t
    unfold fixedBits; simp only [List.cons_append, List.append_assoc]
  refine ⟨fun most t hm => ?_, fun most t hm => ?_⟩
  · refine ⟨List.replicate ((8 - used) % 8) false ++ Fo.bitsOf t, ?_, ?_⟩
    · rw [Fo.bitsOf_append, h4, e]
      exact .lastFixed (he.whole hm _)
    · rw [List.length_append, List.length_replicate, Fo.bitsOf_length]
      rw [show ((8 - used) % 8 + 8 * t.length) % 8 = (8 - used) % 8 by omega]
      rw [List.drop_left' (by rw [List.length_replicate])]
  · rw [Fo.bitsOf_append, h4, e]
    exact Or.inl ⟨true, _, rfl, he.cap hm _⟩

theorem packed_stored {out : List Nat} (hb : Fo.BW out 0 (storedBits data)) (h0 : 0 < data.length) (hl : data.length ≤ 65535) (byt : ∀ i, i < data.length → nth data i < 256) : Packed data out := by
  obtain ⟨_, h2, h3, h4⟩ := hb
  have e : ∀ t, storedBits data ++ List.replicate ((8 - 0) % 8) false ++ Fo.bitsOf t = true :: (Fo.numBits 2 0 ++ (List.replicate 5 false ++ (Fo.numBits 16 data.length ++ (Fo.numBits 16 (65535 - data.length) ++ (Fo.bitsOf data ++ Fo.bitsOf t))))) := by
    intro t
    unfold storedBits
    rw [show (8 - 0) % 8 = 0 from rfl]
    simp only [List.cons_append, List.append_assoc, List.replicate_zero, List.nil_append]
  have l5 : ∀ t, (List.replicate 5 false ++ (Fo.numBits 16 data.length ++ (Fo.numBits 16 (65535 - data.length) ++ (Fo.bitsOf data ++ Fo.bitsOf t)))).length % 8 = 5 := by
    intro t
    simp only [List.length_append, List.length_replicate, Fo.numBits_length, Fo.bitsOf_length]; omega
  refine ⟨fun most t hm => ?_, fun most t hm => ?_⟩
  · refine ⟨Fo.bitsOf t, ?_, ?_⟩
    · rw [Fo.bitsOf_append, h4, e]
      have := Blocks.lastStored (window := 32768) (most := most) (r := List.replicate 5 false ++ (Fo.numBits 16 data.length ++ (Fo.numBits 16 (65535 - data.length) ++ (Fo.bitsOf data ++ Fo.bitsOf t)))) (r' := Fo.bitsOf t) (out := []) data h0 hl byt ?_ (by rw [Fo.bitsOf_length]; omega) (by simpa using hm)
      · simpa using this
      · rw [l5, List.drop_left' (by rw [List.length_replicate])]
    · rw [Fo.bitsOf_length, show (8 * t.length) % 8 = 0 by omega, List.drop_zero]
  · rw [Fo.bitsOf_append, h4, e]
    exact Or.inr ⟨true, _, Fo.bitsOf t, data, rfl, h0, hl, byt, by rw [l5, List.drop_left' (by rw [List.length_replicate])], by rw [Fo.bitsOf_length]; omega, hm⟩

theorem own_new {w : World} {B : Nat} (hB : B ≤ w.heap.size) (l : List Nat) (hl : l.length ≤ 100) : (w.alloc (.cells (l.map fun x : Nat => Value.int .u8 (x : Int)).toArray 5)).ownsRow B 5 1 (.slice (some ⟨w.heap.size, 0, none⟩) l.length l.length) l.length (l.map fun x : Nat => .int .u8 (x : Int)) := by
  refine ⟨by simp, Or.inr ⟨w.heap.size, l.length, _, rfl, hB, blk_new _ _, Nat.le_refl _, by unfold maxLen; omega, by simp, ?_⟩⟩
  rw [List.take_of_length_le (by simp)]

theorem fixedBits_len (eb : List Bool) : (fixedBits eb).length = 10 + eb.length := by
  unfold fixedBits
  rw [codeBits_eq, code256]
  simp only [List.length_cons, List.length_append, Fo.numBits_length, highBits_length]; omega
theorem storedBits_len (data : List Nat) : (storedBits data).length = 40 + 8 * data.length := by
  unfold storedBits
  simp only [List.length_cons, List.length_append, Fo.numBits_length, List.length_replicate, Fo.bitsOf_length]; omega

def flOut (data bl : List Nat) : List Nat := [120, 156] ++ bl ++ sum4 data
theorem own_far' {w : World} {B e n size k : Nat} {v : Value} {xs : List Value} (h : w.ownsRow B e size v n xs) (hk : k < B) : some k ≠ v.ownBlock := fun he => own_far h hk he.symm

set_option maxRecDepth 100000 in
set_option maxHeartbeats 2000000 in
theorem encodeFlate_ok (hd : Dat w B ao data) (hB : B ≤ w.heap.size) (byt : ∀ i, i < data.length → nth data i < 256) (len : data.length ≤ 65535) (lc : data.length ≤ cap ∧ cap ≤ 9223372036854775807) (hn : ao = none → cap = 0) :
    Calls Tryd.prog 18 #[.slice ao data.length cap] w fun e w' => ∃ (v : Value) (bl : List Nat), e = .returned v ∧ w'.ownsRow w.heap.size 5 1 v (flOut data bl).length ((flOut data bl).map fun x : Nat => .int .u8 (x : Int)) ∧ Below w.heap.size w w' ∧ Packed data bl ∧ 2 ≤ bl.length ∧ bl.length ≤ data.length + 5 ∧ (∀ x ∈ bl, x < 256) := by
  obtain ⟨i0, hi, hz0, hz1, hz2⟩ := info_parts Tryd.infoByte
  have H1 := hide (dcoded_ok hd hB byt (by omega) lc)
  have HD := hide hd
  have BYT := hide byt
  clear hd byt
  go_enter Tryd.func18, Tryd.ntmps18
  go_wp2_with fail
  refine H1.out.mono ?_
  rintro e w1 ⟨ov1, out1, used, eb, rfl, own1, b1, hb1, henc, hel⟩
  have hP1 := hide (packed_fixed hb1 henc)
  have hl1 := bw_len hb1
  rw [fixedBits_len] at hl1
  have hq1 := hide hb1.2.2.1
  obtain ⟨a1, c1, rfl⟩ := own_slice own1
  have OWN1 := hide own1
  have B1 := hide b1
  have hs1 := b1.size
  clear own1 b1 hb1 henc H1
  have hlow : 2 ≤ out1.length := by omega
  have HL1 := hide (And.intro hl1 hel)
  clear hl1 hel
  go_wp2_with fail
  refine (wstored_ok (HD.out.below B1.out) (by omega) BYT.out len hn).mono ?_
  rintro e w2 ⟨ov2, out2, rfl, own2, b2, hb2⟩
  have hl2 := bw_len hb2
  rw [storedBits_len] at hl2
  have HL2 := hide (show out2.length = data.length + 5 by omega)
  clear hl2
  obtain ⟨a2, c2, rfl⟩ := own_slice own2
  have O1 := hide (own_below OWN1.out b2)
  have O2 := hide (own_base own2 (B' := w.heap.size) hs1)
  have B2 := hide (B1.out.trans (b2.mono hs1))
  have HB2 := hide hb2
  have HD2 := hide (HD.out.below B2.out)
  have hs2 := B2.out.size
  clear own2 b2 OWN1 B1 hb2 HD
  by_cases hc : out2.length < out1.length
  · have hc' : (out2.length : Int) < out1.length := by omega
    have hpos : 0 < data.length := by
      have := HL1.out; have := HL2.out; omega
    have HP := hide (And.intro (packed_stored HB2.out hpos len BYT.out) (And.intro (show 2 ≤ out2.length by have := HL2.out; omega) (And.intro (show out2.length ≤ data.length + 5 by have := HL2.out; omega) HB2.out.2.2.1)))
    have O := O2
    clear O1 O2 HL1 HL2 HB2 hP1 hq1 hlow hn
    obtain ⟨g, hag, hg⟩ : ∃ g, a2 = some ⟨g, 0, none⟩ ∧ w.heap.size ≤ g := by
      obtain ⟨g, c, hav, hg⟩ := own_form O.out (by have := HP.out.2.1; omega)
      cases hav
      exact ⟨g, rfl, hg⟩
    subst hag
    have hgl := (O.out.lt g rfl).2
    go_wp2_with fail
    refine (sum_ok ao cap data (B := B) (by omega) HD2.out (by omega) BYT.out).mono ?_
    rintro e w3 ⟨rfl, o3, rfl⟩
    unfold sumVal
    have hO3 := hide (((O.out.alloc o3).alloc (.cells #[.int .u8 ((sumAB data).2 / 256 : Nat), .int .u8 ((sumAB data).2 % 256 : Nat), .int .u8 ((sumAB data).1 / 256 : Nat), .int .u8 ((sumAB data).1 % 256 : Nat)] 43)).alloc (.cells #[.int .u8 120, .int .u8 156] 5))
    have hb5 := hide (((B2.out.alloc hs2 o3).alloc (by simp; omega) (.cells #[.int .u8 ((sumAB data).2 / 256 : Nat), .int .u8 ((sumAB data).2 % 256 : Nat), .int .u8 ((sumAB data).1 / 256 : Nat), .int .u8 ((sumAB data).1 % 256 : Nat)] 43)).alloc (by simp; omega) (.cells #[.int .u8 120, .int .u8 156] 5))
    have hN := hide (own_new (w := (w2.alloc o3).alloc (.cells #[.int .u8 ((sumAB data).2 / 256 : Nat), .int .u8 ((sumAB data).2 % 256 : Nat), .int .u8 ((sumAB data).1 / 256 : Nat), .int .u8 ((sumAB data).1 % 256 : Nat)] 43)) (B := w.heap.size) (by simp; omega) [120, 156] (by simp))
    have hS4 := hide (blk_alloc (.cells #[.int .u8 120, .int .u8 156] 5) (blk_new (w2.alloc o3) (.cells #[.int .u8 ((sumAB data).2 / 256 : Nat), .int .u8 ((sumAB data).2 % 256 : Nat), .int .u8 ((sumAB data).1 / 256 : Nat), .int .u8 ((sumAB data).1 % 256 : Nat)] 43)))
    have tok : True := trivial
    go_wp2_with (at_builtin; have _t := tok; refine wpList_append_own _ rfl (.tmp 19) (.tmp 20) 22 rfl w.heap.size 5 i0 (.int .u8 0) 1 1 Tryd.underlying22 hi hz0 hz1 hz2 rfl (by decide) (.slice (some ⟨w2.heap.size + 1 + 1, 0, none⟩) 2 2) 2 ([120, 156].map fun x : Nat => .int .u8 (x : Int)) rfl ?hown ⟨g, 0, none⟩ out2.length c2 (out2.map fun x : Nat => .int .u8 (x : Int)) rfl (by simp) ?hnews ?hone ?h63 ?hby ?hbs ?_; clear tok)
    case hown => simpa using hN.out
    case hnews => exact hO3.out.cells (g := g) rfl
    case hone => intro u hu; simp at hu; obtain ⟨x, _, rfl⟩ := hu; rfl
    case h63 => have := HP.out.2.2.1; unfold maxLen; omega
    case hby => have := HP.out.2.2.1; omega
    case hbs => simp; omega
    intro v1 w6 own6 hg6 _
    have hsum6 := hide (show w6.heap[w2.heap.size + 1]? = some (.cells #[.int .u8 ((sumAB data).2 / 256 : Nat), .int .u8 ((sumAB data).2 % 256 : Nat), .int .u8 ((sumAB data).1 / 256 : Nat), .int .u8 ((sumAB data).1 % 256 : Nat)] 43 (0, 0)) by
      rw [hg6.block _ (by simp) (by simp [Value.ownBlock])]; simpa using hS4.out)
    have B6 := hide (show Below w.heap.size w w6 from hb5.out.trans ⟨hg6.os, hg6.tape, hg6.output, hg6.size, fun k hk => hg6.block k (by simp; omega) (by simp [Value.ownBlock]; omega)⟩)
    have OWN6 := hide own6
    obtain ⟨a6, c6, rfl⟩ := own_slice own6
    clear own6 hg6 hb5 hN hS4 hO3 O B2 HD2
    have hs6 := B6.out.size
    have hsl := lt_of_block hsum6.out
    go_wp2_with (at_builtin; refine wpList_append_own _ rfl (.tmp 22) (.tmp 23) 22 rfl w.heap.size 5 i0 (.int .u8 0) 1 1 Tryd.underlying22 hi hz0 hz1 hz2 rfl (by decide) (.slice a6 (2 + out2.length) c6) (2 + out2.length) _ rfl OWN6.out ⟨w2.heap.size + 1, 0, none⟩ 4 4 ((sum4 data).map fun x : Nat => .int .u8 (x : Int)) rfl rfl ?hnews ?hone ?h63 ?hby ?hbs ?_)
    case hnews =>
      intro j u hu
      rw [addr_add, cell_blk hsum6.out]
      simpa [sum4] using hu
    case hone => intro u hu; simp at hu; obtain ⟨x, _, rfl⟩ := hu; rfl
    case h63 => have := HP.out.2.2.1; unfold maxLen; omega
    case hby => have := HP.out.2.2.1; omega
    case hbs => omega
    intro v7 w7 own7 hg7 _
    have B7 := B6.out.trans (show Below w.heap.size w6 w7 from ⟨hg7.os, hg7.tape, hg7.output, hg7.size, fun k hk => hg7.block k (by omega) (own_far' OWN6.out hk)⟩)
    clear hg7
    go_wp2
    go_ret
    refine ⟨v7, out2, rfl, ?_, B7, HP.out⟩
    unfold flOut
    rw [List.map_append, List.map_append, List.length_append, List.length_append]
    exact own7
  · have hc' : ¬ (out2.length : Int) < out1.length := by omega
    have HP := hide (And.intro hP1.out (And.intro (show 2 ≤ out1.length from hlow) (And.intro (show out1.length ≤ data.length + 5 by have := HL2.out; omega) hq1.out)))
    have O := O1
    clear O1 O2 HL1 HL2 HB2 hP1 hq1 hlow hn
    obtain ⟨g, hag, hg⟩ : ∃ g, a1 = some ⟨g, 0, none⟩ ∧ w.heap.size ≤ g := by
      obtain ⟨g, c, hav, hg⟩ := own_form O.out (by have := HP.out.2.1; omega)
      cases hav
      exact ⟨g, rfl, hg⟩
    subst hag
    have hgl := (O.out.lt g rfl).2
    go_wp2_with fail
    refine (sum_ok ao cap data (B := B) (by omega) HD2.out (by omega) BYT.out).mono ?_
    rintro e w3 ⟨rfl, o3, rfl⟩
    unfold sumVal
    have hO3 := hide (((O.out.alloc o3).alloc (.cells #[.int .u8 ((sumAB data).2 / 256 : Nat), .int .u8 ((sumAB data).2 % 256 : Nat), .int .u8 ((sumAB data).1 / 256 : Nat), .int .u8 ((sumAB data).1 % 256 : Nat)] 43)).alloc (.cells #[.int .u8 120, .int .u8 156] 5))
    have hb5 := hide (((B2.out.alloc hs2 o3).alloc (by simp; omega) (.cells #[.int .u8 ((sumAB data).2 / 256 : Nat), .int .u8 ((sumAB data).2 % 256 : Nat), .int .u8 ((sumAB data).1 / 256 : Nat), .int .u8 ((sumAB data).1 % 256 : Nat)] 43)).alloc (by simp; omega) (.cells #[.int .u8 120, .int .u8 156] 5))
    have hN := hide (own_new (w := (w2.alloc o3).alloc (.cells #[.int .u8 ((sumAB data).2 / 256 : Nat), .int .u8 ((sumAB data).2 % 256 : Nat), .int .u8 ((sumAB data).1 / 256 : Nat), .int .u8 ((sumAB data).1 % 256 : Nat)] 43)) (B := w.heap.size) (by simp; omega) [120, 156] (by simp))
    have hS4 := hide (blk_alloc (.cells #[.int .u8 120, .int .u8 156] 5) (blk_new (w2.alloc o3) (.cells #[.int .u8 ((sumAB data).2 / 256 : Nat), .int .u8 ((sumAB data).2 % 256 : Nat), .int .u8 ((sumAB data).1 / 256 : Nat), .int .u8 ((sumAB data).1 % 256 : Nat)] 43)))
    have tok : True := trivial
    go_wp2_with (at_builtin; have _t := tok; refine wpList_append_own _ rfl (.tmp 19) (.tmp 20) 22 rfl w.heap.size 5 i0 (.int .u8 0) 1 1 Tryd.underlying22 hi hz0 hz1 hz2 rfl (by decide) (.slice (some ⟨w2.heap.size + 1 + 1, 0, none⟩) 2 2) 2 ([120, 156].map fun x : Nat => .int .u8 (x : Int)) rfl ?hown ⟨g, 0, none⟩ out1.length c1 (out1.map fun x : Nat => .int .u8 (x : Int)) rfl (by simp) ?hnews ?hone ?h63 ?hby ?hbs ?_; clear tok)
    case hown => simpa using hN.out
    case hnews => exact hO3.out.cells (g := g) rfl
    case hone => intro u hu; simp at hu; obtain ⟨x, _, rfl⟩ := hu; rfl
    case h63 => have := HP.out.2.2.1; unfold maxLen; omega
    case hby => have := HP.out.2.2.1; omega
    case hbs => simp; omega
    intro v1 w6 own6 hg6 _
    have hsum6 := hide (show w6.heap[w2.heap.size + 1]? = some (.cells #[.int .u8 ((sumAB data).2 / 256 : Nat), .int .u8 ((sumAB data).2 % 256 : Nat), .int .u8 ((sumAB data).1 / 256 : Nat), .int .u8 ((sumAB data).1 % 256 : Nat)] 43 (0, 0)) by
      rw [hg6.block _ (by simp) (by simp [Value.ownBlock])]; simpa using hS4.out)
    have B6 := hide (show Below w.heap.size w w6 from hb5.out.trans ⟨hg6.os, hg6.tape, hg6.output, hg6.size, fun k hk => hg6.block k (by simp; omega) (by simp [Value.ownBlock]; omega)⟩)
    have OWN6 := hide own6
    obtain ⟨a6, c6, rfl⟩ := own_slice own6
    clear own6 hg6 hb5 hN hS4 hO3 O B2 HD2
    have hs6 := B6.out.size
    have hsl := lt_of_block hsum6.out
    go_wp2_with (at_builtin; refine wpList_append_own _ rfl (.tmp 22) (.tmp 23) 22 rfl w.heap.size 5 i0 (.int .u8 0) 1 1 Tryd.underlying22 hi hz0 hz1 hz2 rfl (by decide) (.slice a6 (2 + out1.length) c6) (2 + out1.length) _ rfl OWN6.out ⟨w2.heap.size + 1, 0, none⟩ 4 4 ((sum4 data).map fun x : Nat => .int .u8 (x : Int)) rfl rfl ?hnews ?hone ?h63 ?hby ?hbs ?_)
    case hnews =>
      intro j u hu
      rw [addr_add, cell_blk hsum6.out]
      simpa [sum4] using hu
    case hone => intro u hu; simp at hu; obtain ⟨x, _, rfl⟩ := hu; rfl
    case h63 => have := HP.out.2.2.1; unfold maxLen; omega
    case hby => have := HP.out.2.2.1; omega
    case hbs => omega
    intro v7 w7 own7 hg7 _
    have B7 := B6.out.trans (show Below w.heap.size w6 w7 from ⟨hg7.os, hg7.tape, hg7.output, hg7.size, fun k hk => hg7.block k (by omega) (own_far' OWN6.out hk)⟩)
    clear hg7
    go_wp2
    go_ret
    refine ⟨v7, out1, rfl, ?_, B7, HP.out⟩
    unfold flOut
    rw [List.map_append, List.map_append, List.length_append, List.length_append]
    exact own7
end Go.Proofs.YtgkljcmjnphpeaaDoor
namespace Go.Proofs.YtgkljcmjnphpeaaDoor
open Go.RowKit
variable {w : World} {B cap n : Nat} {data : List Nat} {ao : Option Addr} {P : Value → World → Prop}

theorem fenc4 (hc : Calls Tryd.prog 18 #[.slice ao n cap] w fun e w' => ∃ v, e = .returned v ∧ P v w') :
    Calls Tryd.prog 11 #[.int .i64 4, .slice ao n cap] w fun e w' => ∃ v, e = .returned v ∧ P v w' := by
  have HC := hide hc
  clear hc
  go_enter Tryd.func11, Tryd.ntmps11
  go_wp2_with fail
  refine HC.out.mono ?_
  rintro e w1 ⟨v, rfl, hp⟩
  go_wp2
  go_ret
  exact ⟨v, rfl, hp⟩

theorem fenc1 (hc : Calls Tryd.prog 15 #[.slice ao n cap] w fun e w' => ∃ v, e = .returned v ∧ P v w') :
    Calls Tryd.prog 11 #[.int .i64 1, .slice ao n cap] w fun e w' => ∃ v, e = .returned v ∧ P v w' := by
  have HC := hide hc
  clear hc
  go_enter Tryd.func11, Tryd.ntmps11
  go_wp2_with fail
  refine HC.out.mono ?_
  rintro e w1 ⟨v, rfl, hp⟩
  go_wp2
  go_ret
  exact ⟨v, rfl, hp⟩

theorem face_encode (f : Nat) (hf : 1 ≤ f ∧ f ≤ 4) (hn : n ≤ 200000) (hc : Calls Tryd.prog 11 #[.int .i64 f, .slice ao n cap] w fun e w' => ∃ v, e = .returned v ∧ P v w') :
    Calls Tryd.prog 7 #[.int .i64 f, .slice ao n cap] w fun e w' => ∃ v, e = .returned (.tuple #[v, .int .i64 0]) ∧ P v w' := by
  have HC := hide hc
  clear hc
  go_enter Tryd.func7, Tryd.ntmps7
  go_wp2_with (go_at_call 10; refine (within_int_yes _ _ _ _ (by omega) (by omega)).mono ?_; rintro e w' ⟨rfl, rfl⟩)
  refine HC.out.mono ?_
  rintro e w1 ⟨v, rfl, hp⟩
  go_wp2
  exact bodyPost_ret (v := .tuple #[v, .int .i64 0]) (by simp [results, Tryd.results7, go_sem]) rfl ⟨v, rfl, hp⟩

/-- What filter 4 answers. -/
def Enc4 (w : World) (data : List Nat) (v : Value) (w' : World) : Prop :=
  ∃ bl, w'.ownsRow w.heap.size 5 1 v (flOut data bl).length ((flOut data bl).map fun x : Nat => .int .u8 (x : Int)) ∧ Below w.heap.size w w' ∧ Packed data bl ∧ 2 ≤ bl.length ∧ bl.length ≤ data.length + 5 ∧ (∀ x ∈ bl, x < 256)

theorem encode4_ok (hd : Dat w B ao data) (hB : B ≤ w.heap.size) (byt : ∀ i, i < data.length → nth data i < 256) (len : data.length ≤ 65535) (lc : data.length ≤ cap ∧ cap ≤ 9223372036854775807) (hn : ao = none → cap = 0) :
    Calls Tryd.prog 7 #[.int .i64 4, .slice ao data.length cap] w fun e w' => ∃ v, e = .returned (.tuple #[v, .int .i64 0]) ∧ Enc4 w data v w' := by
  refine face_encode 4 (by omega) (by omega) (fenc4 ?_)
  refine (encodeFlate_ok hd hB byt len lc hn).mono ?_
  rintro e w' ⟨v, bl, rfl, h⟩
  exact ⟨v, rfl, bl, h⟩

/-- What filter 1 answers. -/
def Enc1 (w : World) (data : List Nat) (v : Value) (w' : World) : Prop :=
  w'.ownsRow w.heap.size 5 1 v (2 * data.length + 1) ((Fo.hexOf data ++ [62]).map fun x : Nat => .int .u8 (x : Int)) ∧ Below w.heap.size w w'

theorem encode1_ok (hd : Dat w B ao data) (hB : B ≤ w.heap.size) (byt : ∀ i, i < data.length → nth data i < 256) (len : data.length ≤ 200000) :
    Calls Tryd.prog 7 #[.int .i64 1, .slice ao data.length cap] w fun e w' => ∃ v, e = .returned (.tuple #[v, .int .i64 0]) ∧ Enc1 w data v w' := by
  refine face_encode 1 (by omega) len (fenc1 ?_)
  have hd' : Dat w w.heap.size ao data := fun i hi => by
    obtain ⟨b, o, e1, e2, e3⟩ := hd i hi
    exact ⟨b, o, e1, by omega, e3⟩
  refine (encodeHex_ok ao cap data (Nat.le_refl _) hd' len byt).mono ?_
  rintro e w' ⟨v, rfl, h1, h2⟩
  exact ⟨v, rfl, h1, h2.below (Nat.le_refl _) (by simp)⟩
end Go.Proofs.YtgkljcmjnphpeaaDoor
