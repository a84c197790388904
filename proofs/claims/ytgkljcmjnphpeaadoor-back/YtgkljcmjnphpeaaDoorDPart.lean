/- deflater.part: one byte, or bytes that stood already, put. -/
import Derived.Test.YtgkljcmjnphpeaaDoorStep
import Derived.Test.YtgkljcmjnphpeaaDoorDWith
import Derived.Test.YtgkljcmjnphpeaaDoorTab
set_option linter.unusedVariables false
set_option linter.unusedSimpArgs false
namespace Go.Proofs.YtgkljcmjnphpeaaDoor
open Go.RowKit
variable {w w' : World} {B bw bm g1 g2 cap T : Nat} {data : List Nat} {ao : Option Addr} {bs : List Bool} {at_ : Nat} {rest : List Value}

theorem De.write {bs' : List Bool} (h : De B bw bm g1 g2 cap data ao w bs at_) (k : Kept 5 B [bw] w w')
    (hx : Wx B bw 71 [.slice ao data.length cap, .int .i64 at_, .map (some bm), .slice (some ⟨g1, 0, none⟩) 288 288, .slice (some ⟨g2, 0, none⟩) 32 32] w' bs') : De B bw bm g1 g2 cap data ao w' bs' at_ := by
  obtain ⟨n1, n2, n3, _⟩ := h.ne
  obtain ⟨_, _, _, _, _, hbw, _⟩ := h.cells
  obtain ⟨es, clock, m1, m2⟩ := h.st
  obtain ⟨C1, a1, a2⟩ := h.r1
  obtain ⟨C2, b1, b2⟩ := h.r2
  refine ⟨hx, ?_, h.byt, h.len, h.lc, h.hat, ⟨es, clock, k.block bm _ (by simp [n1]) m1 (Or.inr (by intro c fz e; cases e)), m2⟩, ⟨C1, k.block g1 _ (by simp [n2]) a1 (Or.inr (by intro c fz e; simp at e)), a2⟩, ⟨C2, k.block g2 _ (by simp [n3]) b1 (Or.inr (by intro c fz e; simp at e)), b2⟩, h.hbm⟩
  intro i hi
  obtain ⟨b, o, e1, e2, e3⟩ := h.dat i hi
  exact ⟨b, o, e1, e2, k.cell (by simpa using hbw) e2 e3⟩

theorem codeBits_eq (t : List (Nat × Nat)) (s : Nat) : Fo.codeBits t s = Fo.highBits (tnth t s).1 (tnth t s).2 := rfl

theorem CodeRow.cellsAt {g : Nat} {t : List (Nat × Nat)} (h : CodeRow w g t) (s : Nat) (hs : s < t.length) : w.cell? ⟨g, s * 2, none⟩ = some (.int .i64 ((tnth t s).1 : Nat)) ∧ w.cell? ⟨g, s * 2 + 1, none⟩ = some (.int .i64 ((tnth t s).2 : Nat)) := by
  obtain ⟨C, h1, _, h3⟩ := h
  obtain ⟨e1, e2⟩ := h3 s hs
  exact ⟨by rw [cell_blk h1]; exact e1, by rw [cell_blk h1]; exact e2⟩

/-- What one part does. -/
def PartDone (B bw bm g1 g2 cap : Nat) (data : List Nat) (ao : Option Addr) (w : World) (bs : List Bool) (at_ : Nat) (w' : World) : Prop :=
  ∃ (p : List Bool) (n : Nat), 0 < n ∧ at_ + n ≤ data.length ∧ De B bw bm g1 g2 cap data ao w' (bs ++ p) (at_ + n) ∧ (∀ eb, Fo.Enc data at_ eb → Fo.Enc data (at_ + n) (eb ++ p)) ∧ p.length ≤ 40 * n ∧ Kept 5 B [bw, bm] w w'

theorem lit_le (h : De B bw bm g1 g2 cap data ao w bs at_) (hlt : at_ < data.length) :
    ∃ (b o s X Y : Nat), ao = some ⟨b, o, none⟩ ∧ b < B ∧ s < 256 ∧ Y ≤ 9 ∧ X < 1024 ∧ w.cell? ⟨b, o + at_, none⟩ = some (.int .u8 (s : Nat)) ∧ w.cell? ⟨g1, s * 2, none⟩ = some (.int .i64 (X : Nat)) ∧ w.cell? ⟨g1, s * 2 + 1, none⟩ = some (.int .i64 (Y : Nat)) ∧
      (∀ eb, Fo.Enc data at_ eb → Fo.Enc data (at_ + 1) (eb ++ Fo.highBits X Y)) := by
  obtain ⟨b, o, e1, e2, e3⟩ := h.dat.at (by omega)
  have hs := h.byt at_ hlt
  have ht := tabF_le ⟨nth data at_, by omega⟩
  simp only [] at ht
  obtain ⟨q0, q1⟩ := h.r1.cellsAt (nth data at_) (by rw [tabF_len]; omega)
  refine ⟨b, o, nth data at_, _, _, e1, e2, hs, ht.2, ht.1, e3 at_ hlt, q0, q1, fun eb he => ?_⟩
  refine he.lit hlt (fun x hx => ?_)
  obtain ⟨i, hi, rfl⟩ := List.getElem_of_mem hx
  have := h.byt i hi
  simpa [nth, hi] using this

theorem De.code1 (h : De B bw bm g1 g2 cap data ao w bs at_) (S X Y : Nat) (hS : S < 288) (hXY : tnth Fo.tabF S = (X, Y)) : w.cell? ⟨g1, S * 2, none⟩ = some (.int .i64 (X : Nat)) ∧ w.cell? ⟨g1, S * 2 + 1, none⟩ = some (.int .i64 (Y : Nat)) := by
  have := h.r1.cellsAt S (by rw [tabF_len]; exact hS)
  rw [hXY] at this; exact this
theorem De.code2 (h : De B bw bm g1 g2 cap data ao w bs at_) (S X Y : Nat) (hS : S < 32) (hXY : tnth Fo.tadF S = (X, Y)) : w.cell? ⟨g2, S * 2, none⟩ = some (.int .i64 (X : Nat)) ∧ w.cell? ⟨g2, S * 2 + 1, none⟩ = some (.int .i64 (Y : Nat)) := by
  have := h.r2.cellsAt S (by rw [tadF_len]; exact hS)
  rw [hXY] at this; exact this
theorem De.drew (h : De B bw bm g1 g2 cap data ao w bs at_) : De B bw bm g1 g2 cap data ao w.drew bs at_ := h.below (Below.refl _ _).drew
theorem De.alloc (h : De B bw bm g1 g2 cap data ao w bs at_) (o : Obj) : De B bw bm g1 g2 cap data ao (w.alloc o) bs at_ := h.below ((Below.refl _ _).alloc (Nat.le_refl _) o)
theorem Kept.two {e B : Nat} {a b : World} (h : Kept e B [bw] a b) : Kept e B [bw, bm] a b := h.mono (fun k hk => by simp at hk; simp [hk])
theorem kept_of {e B : Nat} {S : List Nat} {a b : World} (h : Below a.heap.size a b) : Kept e B S a b := Kept.thenBelow (Kept.refl _ _ _ _) h

theorem pair_ex {α β : Type} (x : α × β) : ∃ a b, x = (a, b) := ⟨x.1, x.2, rfl⟩
/-- What is put for bytes that stood already. -/
theorem copy_prep {l d : Nat} (m1 : 3 ≤ l) (m2 : l ≤ 258) (m3 : 1 ≤ d) (m4 : d ≤ 32768) (m5 : d ≤ at_) (m6 : at_ + l ≤ data.length) (m7 : ∀ i, i < l → nth data (at_ + i) = nth data (at_ - d + i)) :
    ∃ S X Y x1 x2 D X2 Y2 y1 y2 : Nat, Fo.lenSym l = S ∧ Fo.distSym d = D ∧ 257 ≤ S ∧ S ≤ 285 ∧ D ≤ 29 ∧ tnth Fo.tabF S = (X, Y) ∧ tnth Fo.tadF D = (X2, Y2) ∧ Fo.lenSpan S = (x1, x2) ∧ Fo.distSpan D = (y1, y2) ∧
      (X < 1024 ∧ Y ≤ 9 ∧ X2 < 1024 ∧ Y2 ≤ 9 ∧ x1 ≤ l ∧ x2 ≤ 5 ∧ y1 ≤ d ∧ y2 ≤ 13) ∧
      (∀ eb, Fo.Enc data at_ eb → Fo.Enc data (at_ + l) (eb ++ (Fo.highBits X Y ++ (Fo.numBits x2 (l - x1) ++ (Fo.highBits X2 Y2 ++ Fo.numBits y2 (d - y1)))))) := by
  obtain ⟨a1, a2, a3, _⟩ := Fo.lenSym_ok ⟨l - 3, by omega⟩
  simp only [show l - 3 + 3 = l by omega] at a1 a2 a3
  obtain ⟨b1, b2, _⟩ := Fo.distSym_ok d m3 m4
  have l1 := lenSpan_le ⟨Fo.lenSym l, by omega⟩ a1
  have l2 := distSpan_le ⟨Fo.distSym d, by omega⟩
  have t1 := tabF_le ⟨Fo.lenSym l, by omega⟩
  have t2 := tadF_le ⟨Fo.distSym d, by omega⟩
  simp only [] at l1 l2 t1 t2
  obtain ⟨X, Y, hXY⟩ := pair_ex (tnth Fo.tabF (Fo.lenSym l))
  obtain ⟨X2, Y2, hXY2⟩ := pair_ex (tnth Fo.tadF (Fo.distSym d))
  obtain ⟨x1, x2, hx⟩ := pair_ex (Fo.lenSpan (Fo.lenSym l))
  obtain ⟨y1, y2, hy⟩ := pair_ex (Fo.distSpan (Fo.distSym d))
  have hcb : Fo.copyBits l d = Fo.highBits X Y ++ (Fo.numBits x2 (l - x1) ++ (Fo.highBits X2 Y2 ++ Fo.numBits y2 (d - y1))) := by
    unfold Fo.copyBits
    rw [codeBits_eq, codeBits_eq, hXY, hXY2, hx, hy]
  rw [hXY] at t1
  rw [hXY2] at t2
  rw [hx] at l1 a3
  rw [hy] at l2 b2
  refine ⟨Fo.lenSym l, X, Y, x1, x2, Fo.distSym d, X2, Y2, y1, y2, rfl, rfl, a1, a2, b1, hXY, hXY2, hx, hy, ⟨t1.1, t1.2, t2.1, t2.2, a3, l1.1, b2, l2.1⟩, fun eb he => ?_⟩
  rw [← hcb]
  exact he.copy l d m1 m2 m3 m4 m5 m6 m7

set_option maxRecDepth 100000 in
set_option maxHeartbeats 4000000 in
theorem dpart_ok (h : De B bw bm g1 g2 cap data ao w bs at_) (hlt : at_ < data.length) (hl : bs.length + 100 ≤ 1099511627776) :
    Calls Tryd.prog 45 #[.pointer (some ⟨bw, 0, none⟩)] w fun e w' => e = .returned (.tuple #[]) ∧ PartDone B bw bm g1 g2 cap data ao w bs at_ w' := by
  have HM := hide (match_ok h)
  have H := hide h
  have hlen := h.len
  clear h
  go_enter Tryd.func45, Tryd.ntmps45
  go_wp2_with fail
  refine HM.out.mono ?_
  rintro e w1 ⟨l, d, rfl, b1, hm⟩
  have H1 := hide (H.out.below b1)
  have B1 := hide b1
  clear HM H b1
  rcases hm with rfl | ⟨m1, m2, m3, m4, m5, m6, m7⟩
  · obtain ⟨b, o, s, X, Y, rfl, hb, hs, hY, hX, d0, q0, q1, henc⟩ := lit_le H1.out hlt
    have HEN := hide henc
    obtain ⟨c2, c3, _, c5, _, hbw, hbl, _⟩ := H1.out.cells
    have hlc := H1.out.lc
    clear henc
    have HC := hide (wcode_ok (w := w1.drew) (H1.out.wx.drew) (X, Y) (by show X < _; omega) (by show Y ≤ _; omega) (by show _ + Y ≤ _; omega))
    unfold codeVal at HC
    go_wp2_with fail
    go_region_with (go_at_call 46; refine HC.out.mono ?_; rintro e w2 ⟨rfl, hx2, k2⟩)
    all_goals (
      have H2 := hide (De.write H1.out.drew k2 hx2)
      have K2 := hide (((kept_of (e := 5) (B := B) (S := [bw, bm]) B1.out).drew).trans (Kept.two k2))
      clear HC H1 B1 c2 c3 c5 q0 q1 d0 hx2 k2
      go_wp2_with fail
      refine (step_ok 1 H2.out (by omega)).mono ?_
      rintro e w3 ⟨rfl, h3, k3⟩
      go_wp2
      refine bodyPost_ret (v := .tuple #[]) (by simp [results, Tryd.results45, go_sem]) rfl ⟨rfl, _, 1, by omega, by omega, h3, HEN.out, by rw [highBits_length]; omega, K2.out.trans k3⟩)
  · have e0 : ((l : Int) == 0) = false := by simp; omega
    obtain ⟨S, X, Y, x1, x2, D, X2, Y2, y1, y2, hS, hD, a1, a2, a3, tXY, tXY2, sx, sy, hnum, henc⟩ := copy_prep (data := data) m1 m2 m3 m4 m5 m6 m7
    have HEN := hide henc
    have HT1 := hide tXY
    have HT2 := hide tXY2
    have NUM := hide hnum
    have HLS := hide (lengthSymbol_ok l m1 m2)
    have HLD := hide (distanceSymbol_ok d m3 m4)
    have HSP := hide (lengthSpan_ok S a1 a2)
    have HSD := hide (distanceSpan_ok D a3)
    rw [hS] at HLS
    rw [hD] at HLD
    rw [sx] at HSP
    rw [sy] at HSD
    clear henc tXY tXY2 hnum sx sy hS hD m7
    go_wp2_with fail
    refine (HLS.out _).mono ?_
    rintro e w2 ⟨rfl, b2⟩
    have H2 := hide (H1.out.below b2)
    have B2 := hide (B1.out.trans (b2.mono B1.out.size))
    clear H1 B1 b2 HLS
    have H2d := hide (H2.out.drew)
    obtain ⟨_, _, _, c5, _, hbw, hbl, _⟩ := H2.out.cells
    obtain ⟨q0, q1⟩ := H2.out.code1 S X Y (by omega) HT1.out
    have HC := hide (wcode_ok (w := w2.drew) H2d.out.wx (X, Y) (by have := NUM.out; show X < _; omega) (by have := NUM.out; show Y ≤ _; omega) (by have := NUM.out; show _ + Y ≤ _; omega))
    unfold codeVal at HC
    go_wp2_with fail
    go_region_with (go_at_call 46; refine HC.out.mono ?_; rintro e w3 ⟨rfl, hx3, k3⟩)
    have H3 := hide (De.write H2d.out k3 hx3)
    have K3 := hide (((kept_of (e := 5) (B := B) (S := [bw, bm]) B2.out).drew).trans (Kept.two k3))
    clear HC H2 H2d B2 c5 q0 q1 hx3 k3 hbw hbl
    go_wp2_with fail
    refine (HSP.out _).mono ?_
    rintro e w4 ⟨rfl, o4, rfl⟩
    go_wp2_with fail
    refine (dwithin_ok (H3.out.alloc o4).wx (x1, x2) l (by have := NUM.out; show x1 ≤ _; omega) (by have := NUM.out; show x2 ≤ _; omega) (by omega) (by have := NUM.out; rw [List.length_append, highBits_length]; show _ + Y + _ ≤ _; omega)).mono ?_
    rintro e w5 ⟨rfl, hx5, k5⟩
    have H5 := hide (De.write (H3.out.alloc o4) k5 hx5)
    have K5 := hide ((K3.out.alloc o4).trans (Kept.two k5))
    clear H3 K3 hx5 k5 HSP
    go_wp2_with fail
    refine (HLD.out _).mono ?_
    rintro e w6 ⟨rfl, b6⟩
    have H6 := hide ((H5.out.below b6).drew)
    have H6' := hide (H5.out.below b6)
    have K6 := hide ((Kept.thenBelow K5.out b6).drew)
    clear H5 K5 b6 HLD
    obtain ⟨_, _, _, _, c6, hbw, hbl, _⟩ := H6'.out.cells
    obtain ⟨q0, q1⟩ := H6'.out.code2 D X2 Y2 (by omega) HT2.out
    have HC := hide (wcode_ok (w := w6.drew) H6.out.wx (X2, Y2) (by have := NUM.out; show X2 < _; omega) (by have := NUM.out; show Y2 ≤ _; omega) (by have := NUM.out; simp only [List.length_append, highBits_length, Fo.numBits_length]; omega))
    unfold codeVal at HC
    go_wp2_with fail
    go_region_with (go_at_call 46; refine HC.out.mono ?_; rintro e w7 ⟨rfl, hx7, k7⟩)
    have H7 := hide (De.write H6.out k7 hx7)
    have K7 := hide (K6.out.trans (Kept.two k7))
    clear HC H6 H6' K6 c6 q0 q1 hx7 k7 hbw hbl
    go_wp2_with fail
    refine (HSD.out _).mono ?_
    rintro e w8 ⟨rfl, o8, rfl⟩
    go_wp2_with fail
    refine (dwithin_ok (H7.out.alloc o8).wx (y1, y2) d (by have := NUM.out; show y1 ≤ _; omega) (by have := NUM.out; show y2 ≤ _; omega) (by omega) (by have := NUM.out; simp only [List.length_append, highBits_length, Fo.numBits_length]; omega)).mono ?_
    rintro e w9 ⟨rfl, hx9, k9⟩
    have H9 := hide (De.write (H7.out.alloc o8) k9 hx9)
    have K9 := hide ((K7.out.alloc o8).trans (Kept.two k9))
    clear H7 K7 hx9 k9 HSD
    go_wp2_with fail
    refine (step_ok l H9.out m6).mono ?_
    rintro e w10 ⟨rfl, h10, k10⟩
    go_wp2
    go_end0
    refine ⟨rfl, _, l, by omega, m6, ?_, HEN.out, ?_, K9.out.trans k10⟩
    · simpa only [List.append_assoc] using h10
    · have := NUM.out
      simp only [List.length_append, highBits_length, Fo.numBits_length]; omega
end Go.Proofs.YtgkljcmjnphpeaaDoor
