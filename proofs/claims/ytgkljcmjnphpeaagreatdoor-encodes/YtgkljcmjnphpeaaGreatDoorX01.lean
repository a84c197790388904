/- storedBlock and stored: bytes as they are. -/
import Derived.Test.YtgkljcmjnphpeaaGreatDoorX00
import Derived.WalkKit
import Derived.Laws.BitsAllLaws
import Derived.BigRegion
import Derived.StillTailTactics
import Derived.Deep.MidRow
import Derived.MapKept
import Derived.Laws.AppendOwnNone
set_option linter.unusedVariables false
set_option linter.unusedSimpArgs false
namespace Go.Proofs.YtgkljcmjnphpeaaGreatDoor
open Go.RowKit
variable {w : World}
theorem run_least (X Y : Nat) (W : World) : (Instr.field 247 (spanVal (X, Y)) 0).run Tryz.prog W = .ok (.int .i64 (X : Nat)) W := by kernel_rfl
theorem lastSym_down (f : Nat → Nat × Nat) (v k : Nat) (h : v < (f (k + 1)).1) : Fo.lastSym f v (k + 1) = Fo.lastSym f v k := by rw [Fo.lastSym, if_pos h]
theorem lastSym_here (f : Nat → Nat × Nat) (v k : Nat) (h : ¬ v < (f k).1) : Fo.lastSym f v k = k := by
  cases k with
  | zero => rfl
  | succ k => rw [Fo.lastSym, if_neg h]
theorem lenSpan_le' : ∀ s : Fin 286, 257 ≤ s.val → (Fo.lenSpan s.val).1 ≤ 258 := by decide +kernel
theorem distSpan_le' : ∀ s : Fin 30, (Fo.distSpan s.val).1 ≤ 24577 := by decide +kernel
set_option maxRecDepth 100000 in
set_option maxHeartbeats 1000000 in
theorem lengthSymbol_ok (v : Nat) (h1 : 3 ≤ v) (h2 : v ≤ 258) (w : World) : Calls Tryz.prog 265 #[.int .i64 v] w fun e w' => e = .returned (.int .i64 (Fo.lenSym v : Nat)) ∧ Below w.heap.size w w' := by
  have HR : Hid (Fo.lastSym Fo.lenSpan v 285 = Fo.lenSym v) := hide rfl
  generalize Fo.lenSym v = R at *
  go_enter Tryz.func265, Tryz.ntmps265
  go_wp2
  go_loopw [3] (fun s wr => ∃ k : Nat, 257 ≤ k ∧ k ≤ 285 ∧ s = .int .i64 k ∧ Hid (Fo.lastSym Fo.lenSpan v k = R) ∧ Below w.heap.size w wr) (fun s _ => (intOf s).toNat)
  case atStart => exact ⟨285, by omega, by omega, rfl, HR, Below.refl _ _⟩
  case round =>
    obtain ⟨k, k1, k2, rfl, HK, bl⟩ := hrel
    have hcall := hide (lengthSpan_ok k k1 k2 wr)
    have HX : Hid (∀ X Y, Fo.lenSpan k = (X, Y) → (v < X → 257 < k ∧ Fo.lastSym Fo.lenSpan v (k - 1) = R) ∧ (¬ v < X → k = R)) := by
      intro X Y hxy
      have e : (Fo.lenSpan k).1 = X := by rw [hxy]
      refine ⟨fun hlt => ?_, fun hge => ?_⟩
      · have hk : 257 < k := by
          rcases Nat.lt_or_ge 257 k with c | c
          · exact c
          · obtain rfl : k = 257 := by omega
            have : (Fo.lenSpan 257).1 = 3 := by decide
            omega
        refine ⟨hk, ?_⟩
        obtain ⟨j, rfl⟩ : ∃ j, k = j + 1 := ⟨k - 1, by omega⟩
        rw [Nat.add_sub_cancel, ← lastSym_down Fo.lenSpan v j (by rw [e]; exact hlt)]
        exact HK.out
      · rw [← HK.out]; exact (lastSym_here _ _ _ (by rw [e]; exact hge)).symm
    obtain ⟨X, Y, hXY⟩ : ∃ X Y, Fo.lenSpan k = (X, Y) := ⟨_, _, rfl⟩
    rw [hXY] at hcall
    have hX := HX.out X Y hXY
    have hXm : X ≤ 258 := by
      have := (lenSpan_le' ⟨k, by omega⟩ k1)
      simp only [] at this
      rw [hXY] at this; exact this
    clear HX HK hXY HR
    have hfl := run_least X Y
    by_cases hc : v < X
    · obtain ⟨a1, a2⟩ := hX.1 hc
      have A2 := hide a2
      have hc' : (v : Int) < X := by omega
      clear hX a2
      go_wp2_with fail
      refine hcall.out.mono ?_
      rintro e w1 ⟨rfl, o, rfl⟩
      go_wp2
      go_roundw
      case rel => exact ⟨k - 1, by omega, by omega, by go_num, A2, bl.alloc bl.size _⟩
      case measure => simp [intOf]; omega
    · have a1 := hide (hX.2 hc)
      have hc' : ¬ (v : Int) < X := by omega
      clear hX
      go_wp2_with fail
      refine hcall.out.mono ?_
      rintro e w1 ⟨rfl, o, rfl⟩
      go_wp2
      go_ret
      exact ⟨by rw [a1.out]; rfl, bl.alloc bl.size _⟩
set_option maxRecDepth 100000 in
set_option maxHeartbeats 1000000 in
theorem distanceSymbol_ok (v : Nat) (h1 : 1 ≤ v) (h2 : v ≤ 32768) (w : World) : Calls Tryz.prog 268 #[.int .i64 v] w fun e w' => e = .returned (.int .i64 (Fo.distSym v : Nat)) ∧ Below w.heap.size w w' := by
  have HR : Hid (Fo.lastSym Fo.distSpan v 29 = Fo.distSym v) := hide rfl
  generalize Fo.distSym v = R at *
  go_enter Tryz.func268, Tryz.ntmps268
  go_wp2
  go_loopw [3] (fun s wr => ∃ k : Nat, k ≤ 29 ∧ s = .int .i64 k ∧ Hid (Fo.lastSym Fo.distSpan v k = R) ∧ Below w.heap.size w wr) (fun s _ => (intOf s).toNat)
  case atStart => exact ⟨29, by omega, rfl, HR, Below.refl _ _⟩
  case round =>
    obtain ⟨k, k2, rfl, HK, bl⟩ := hrel
    have hcall := hide (distanceSpan_ok k k2 wr)
    have HX : Hid (∀ X Y, Fo.distSpan k = (X, Y) → (v < X → 0 < k ∧ Fo.lastSym Fo.distSpan v (k - 1) = R) ∧ (¬ v < X → k = R)) := by
      intro X Y hxy
      have e : (Fo.distSpan k).1 = X := by rw [hxy]
      refine ⟨fun hlt => ?_, fun hge => ?_⟩
      · have hk : 0 < k := by
          rcases Nat.lt_or_ge 0 k with c | c
          · exact c
          · obtain rfl : k = 0 := by omega
            have : (Fo.distSpan 0).1 = 1 := by decide
            omega
        refine ⟨hk, ?_⟩
        obtain ⟨j, rfl⟩ : ∃ j, k = j + 1 := ⟨k - 1, by omega⟩
        rw [Nat.add_sub_cancel, ← lastSym_down Fo.distSpan v j (by rw [e]; exact hlt)]
        exact HK.out
      · rw [← HK.out]; exact (lastSym_here _ _ _ (by rw [e]; exact hge)).symm
    obtain ⟨X, Y, hXY⟩ : ∃ X Y, Fo.distSpan k = (X, Y) := ⟨_, _, rfl⟩
    rw [hXY] at hcall
    have hX := HX.out X Y hXY
    have hXm : X ≤ 24577 := by
      have := (distSpan_le' ⟨k, by omega⟩)
      simp only [] at this
      rw [hXY] at this; exact this
    clear HX HK hXY HR
    have hfl := run_least X Y
    by_cases hc : v < X
    · obtain ⟨a1, a2⟩ := hX.1 hc
      have A2 := hide a2
      have hc' : (v : Int) < X := by omega
      clear hX a2
      go_wp2_with fail
      refine hcall.out.mono ?_
      rintro e w1 ⟨rfl, o, rfl⟩
      go_wp2
      go_roundw
      case rel => exact ⟨k - 1, by omega, by go_num, A2, bl.alloc bl.size _⟩
      case measure => simp [intOf]; omega
    · have a1 := hide (hX.2 hc)
      have hc' : ¬ (v : Int) < X := by omega
      clear hX
      go_wp2_with fail
      refine hcall.out.mono ?_
      rintro e w1 ⟨rfl, o, rfl⟩
      go_wp2
      go_ret
      exact ⟨by rw [a1.out]; rfl, bl.alloc bl.size _⟩
end Go.Proofs.YtgkljcmjnphpeaaGreatDoor
namespace Go.Proofs.YtgkljcmjnphpeaaGreatDoor
open Go.RowKit
variable {w : World} {B bw bm g1 g2 cap T : Nat} {data : List Nat} {ao : Option Addr} {bs : List Bool} {at_ : Nat} {rest : List Value}
set_option maxRecDepth 100000 in
set_option maxHeartbeats 1000000 in
theorem dwithin_ok (h : Wx B bw 194 rest w bs) (x : Nat × Nat) (v : Nat) (hv : x.1 ≤ v) (hx : x.2 ≤ 15) (hv2 : v ≤ 100000) (hl : bs.length + 16 ≤ 1099511627776) :
    Calls Tryz.prog 266 #[.pointer (some ⟨bw, 0, none⟩), .int .i64 v, spanVal x] w fun e w' => e = .returned (.tuple #[]) ∧ Wx B bw 194 rest w' (bs ++ Fo.numBits x.2 (v - x.1)) ∧ Kept 5 B [bw] w w' := by
  obtain ⟨x1, x2⟩ := x
  unfold spanVal
  simp only [] at hv hx ⊢
  have HK : Hid (Kept 5 B [bw] w (w.alloc (.cells #[.int .i64 (x1 : Nat), .int .i64 (x2 : Nat)] 247)).drew) := hide (((Kept.refl _ _ _ _).alloc _).drew)
  have HW : Hid (Wx B bw 194 rest (w.alloc (.cells #[.int .i64 (x1 : Nat), .int .i64 (x2 : Nat)] 247)).drew bs) := hide (h.alloc _).drew
  have q0 : (w.alloc (.cells #[.int .i64 (x1 : Nat), .int .i64 (x2 : Nat)] 247)).cell? ⟨w.heap.size, 0, none⟩ = some (.int .i64 (x1 : Nat)) := by rw [cell_blk (blk_new _ _)]; rfl
  have q1 : (w.alloc (.cells #[.int .i64 (x1 : Nat), .int .i64 (x2 : Nat)] 247)).cell? ⟨w.heap.size, 1, none⟩ = some (.int .i64 (x2 : Nat)) := by rw [cell_blk (blk_new _ _)]; rfl
  obtain ⟨l1, l2⟩ := h.lt
  have HC := hide (wbits_ok HW.out (v - x1) x2 (by omega) (by omega) (by omega))
  have e1 : Hid (IntKind.i64.wrap ((v : Int) - x1) = ((v - x1 : Nat) : Int)) := by
    unfold Hid
    rw [IntKind.wrap_i64]; omega
  clear h HW
  go_enter Tryz.func266, Tryz.ntmps266
  go_wp2_with fail
  generalize w.alloc (.cells #[.int .i64 (x1 : Nat), .int .i64 (x2 : Nat)] 247) = w2 at *
  go_region_with (go_at_call 203; rw [e1.out]; refine HC.out.mono ?_; rintro e w1 ⟨rfl, hf1, k1⟩)
  all_goals go_wp2
  all_goals go_end0
  all_goals exact ⟨rfl, hf1, HK.out.trans k1⟩
end Go.Proofs.YtgkljcmjnphpeaaGreatDoor
namespace Go.Proofs.YtgkljcmjnphpeaaGreatDoor
open Go.RowKit
variable {w : World}
theorem ssF_num : psum Fo.csF 15 ≤ Fo.ssF.length ∧ Fo.ssF.length ≤ 1000 ∧ (∀ x ∈ Fo.ssF, x < 288) ∧ ∀ k : Fin 16, valAt Fo.csF k.val ≤ 100000 := by decide +kernel
theorem sdF_num : psum Fo.cdF 15 ≤ Fo.sdF.length ∧ Fo.sdF.length ≤ 1000 ∧ (∀ x ∈ Fo.sdF, x < 32) ∧ ∀ k : Fin 16, valAt Fo.cdF k.val ≤ 100000 := by decide +kernel
theorem nth_mem {l : List Nat} {i : Nat} (h : i < l.length) : nth l i ∈ l := by
  have e : nth l i = l[i] := by simp [nth, h]
  rw [e]; exact List.getElem_mem h
theorem bySymF (b : Nat) (h : CdF w b) : Calls Tryz.prog 261 #[.pointer (some ⟨b, 0, none⟩), .int .i64 288] w fun e w' => e = .returned (.slice (some ⟨w.heap.size, 0, none⟩) 288 288) ∧ CodeRow w' w.heap.size Fo.tabF ∧ Below w.heap.size w w' := by
  obtain ⟨a1, a2, a3, a4⟩ := ssF_num
  have := bySymbol_ok b 0 288 Fo.csF Fo.ssF h (by omega) a1 a2 (fun i hi => a3 _ (nth_mem hi)) (fun k hk => a4 ⟨k, by omega⟩)
  rw [tabF_at] at this
  exact this
theorem bySymD (b : Nat) (h : CdD w b) : Calls Tryz.prog 261 #[.pointer (some ⟨b, 17, none⟩), .int .i64 32] w fun e w' => e = .returned (.slice (some ⟨w.heap.size, 0, none⟩) 32 32) ∧ CodeRow w' w.heap.size Fo.tadF ∧ Below w.heap.size w w' := by
  obtain ⟨a1, a2, a3, a4⟩ := sdF_num
  have := bySymbol_ok b 17 32 Fo.cdF Fo.sdF h (by omega) a1 a2 (fun i hi => a3 _ (nth_mem hi)) (fun k hk => a4 ⟨k, by omega⟩)
  rw [tadF_at] at this
  exact this
theorem fixed_cd {b g1 g2 T : Nat} {fz : Nat × Nat} (hb : w.heap[b]? = some (.cells (fixedCells g1 g2).toArray T fz)) (i1 : IntRow w g1 Fo.ssF) (i2 : IntRow w g2 Fo.sdF) : CdF w b ∧ CdD w b := by
  have hcell : ∀ i v, (fixedCells g1 g2)[i]? = some v → w.cell? ⟨b, i, none⟩ = some v := by
    intro i v hv
    rw [cell_blk hb]; simpa using hv
  have l1 := csF_len
  have l2 := cdF_len
  have li1 : (ints Fo.csF).length = 16 := by simpa [ints] using l1
  have li2 : (ints Fo.cdF).length = 16 := by simpa [ints] using l2
  unfold CdF CdD
  unfold fixedCells at hcell
  clear hb
  generalize Fo.csF = CS at *
  generalize Fo.ssF = SS at *
  generalize Fo.cdF = CD at *
  generalize Fo.sdF = SD at *
  refine ⟨⟨?_, g1, SS.length, ?_, i1.cell⟩, ⟨?_, g2, SD.length, ?_, i2.cell⟩⟩
  · intro i hi
    refine hcell (0 + i) _ ?_
    rw [Nat.zero_add, List.getElem?_append_left (by omega)]; exact ints_get _ _ (by omega)
  · refine hcell (0 + 16) _ ?_
    rw [List.getElem?_append_right (by omega), li1]; rfl
  · intro i hi
    refine hcell (17 + i) _ ?_
    rw [List.getElem?_append_right (by omega), li1, show 17 + i - 16 = i + 1 by omega, List.getElem?_cons_succ, List.getElem?_append_left (by omega)]; exact ints_get _ _ (by omega)
  · refine hcell (17 + 16) _ ?_
    rw [List.getElem?_append_right (by omega), li1, show 17 + 16 - 16 = 16 + 1 by omega, List.getElem?_cons_succ, List.getElem?_append_right (by omega), li2]; rfl
end Go.Proofs.YtgkljcmjnphpeaaGreatDoor
namespace Go.Proofs.YtgkljcmjnphpeaaGreatDoor
open Go.RowKit
theorem tabF_len : Fo.tabF.length = 288 := by decide +kernel
theorem tadF_len : Fo.tadF.length = 32 := by decide +kernel
theorem tabF_le : ∀ s : Fin 288, (tnth Fo.tabF s.val).1 < 1024 ∧ (tnth Fo.tabF s.val).2 ≤ 9 := by decide +kernel
theorem tadF_le : ∀ s : Fin 32, (tnth Fo.tadF s.val).1 < 1024 ∧ (tnth Fo.tadF s.val).2 ≤ 9 := by decide +kernel
end Go.Proofs.YtgkljcmjnphpeaaGreatDoor
namespace Go.Proofs.YtgkljcmjnphpeaaGreatDoor
open Go.RowKit
variable {w w' : World} {B bw bm g1 g2 cap T : Nat} {data : List Nat} {ao : Option Addr} {bs : List Bool} {at_ : Nat} {rest : List Value}
theorem De.write {bs' : List Bool} (h : De B bw bm g1 g2 cap data ao w bs at_) (k : Kept 5 B [bw] w w')
    (hx : Wx B bw 194 [.slice ao data.length cap, .int .i64 at_, .map (some bm), .slice (some ⟨g1, 0, none⟩) 288 288, .slice (some ⟨g2, 0, none⟩) 32 32] w' bs') : De B bw bm g1 g2 cap data ao w' bs' at_ := by
  obtain ⟨n1, n2, n3, _⟩ := h.ne
  obtain ⟨_, _, _, _, _, hbw, _⟩ := h.cells
  obtain ⟨es, clock, m1, m2⟩ := h.st
  obtain ⟨C1, a1, a2⟩ := h.r1
  obtain ⟨C2, b1, b2⟩ := h.r2
  refine ⟨hx, ?_, h.byt, h.len, h.lc, h.hat, ⟨es, clock, k.block bm _ (by simp [n1]) m1 (Or.inr (by intro c fz e; cases e)), m2⟩, ⟨C1, k.block g1 _ (by simp [n2]) a1 (Or.inr (by intro c fz e; simp at e)), a2⟩, ⟨C2, k.block g2 _ (by simp [n3]) b1 (Or.inr (by intro c fz e; simp at e)), b2⟩, h.hbm⟩
  intro i hi
  obtain ⟨b, o, e1, e2, e3⟩ := h.dat i hi
  exact ⟨b, o, e1, e2, k.cell (by simpa using hbw) e2 e3⟩
theorem codeBits_eq (t : List (Nat × Nat)) (s : Nat) : Fo.codeBits t s = Fo.highBits (tnth t s).1 (tnth t s).2 := rfl
theorem CodeRow.cellsAt {g : Nat} {t : List (Nat × Nat)} (h : CodeRow w g t) (s : Nat) (hs : s < t.length) : w.cell? ⟨g, s * 2, none⟩ = some (.int .i64 ((tnth t s).1 : Nat)) ∧ w.cell? ⟨g, s * 2 + 1, none⟩ = some (.int .i64 ((tnth t s).2 : Nat)) := by
  obtain ⟨C, h1, _, h3⟩ := h
  obtain ⟨e1, e2⟩ := h3 s hs
  exact ⟨by rw [cell_blk h1]; exact e1, by rw [cell_blk h1]; exact e2⟩
/-- What one part does. -/
def PartDone (B bw bm g1 g2 cap : Nat) (data : List Nat) (ao : Option Addr) (w : World) (bs : List Bool) (at_ : Nat) (w' : World) : Prop :=
  ∃ (p : List Bool) (n : Nat), 0 < n ∧ at_ + n ≤ data.length ∧ De B bw bm g1 g2 cap data ao w' (bs ++ p) (at_ + n) ∧ (∀ eb, Fo.Enc data at_ eb → Fo.Enc data (at_ + n) (eb ++ p)) ∧ p.length ≤ 40 * n ∧ (Alike data → (n = 1 ∧ p.length ≤ 9 ∧ (at_ = 0 ∨ data.length < at_ + 3)) ∨ (n = min 258 (data.length - at_) ∧ 0 < at_ ∧ p.length ≤ 19)) ∧ Kept 5 B [bw, bm] w w'
theorem lit_le (h : De B bw bm g1 g2 cap data ao w bs at_) (hlt : at_ < data.length) :
    ∃ (b o s X Y : Nat), ao = some ⟨b, o, none⟩ ∧ b < B ∧ s < 256 ∧ Y ≤ 9 ∧ X < 1024 ∧ w.cell? ⟨b, o + at_, none⟩ = some (.int .u8 (s : Nat)) ∧ w.cell? ⟨g1, s * 2, none⟩ = some (.int .i64 (X : Nat)) ∧ w.cell? ⟨g1, s * 2 + 1, none⟩ = some (.int .i64 (Y : Nat)) ∧
      (∀ eb, Fo.Enc data at_ eb → Fo.Enc data (at_ + 1) (eb ++ Fo.highBits X Y)) := by
  obtain ⟨b, o, e1, e2, e3⟩ := h.dat.at (by omega)
  have hs := h.byt at_ hlt
  have ht := tabF_le ⟨nth data at_, by omega⟩
  simp only [] at ht
  obtain ⟨q0, q1⟩ := h.r1.cellsAt (nth data at_) (by rw [tabF_len]; omega)
  refine ⟨b, o, nth data at_, _, _, e1, e2, hs, ht.2, ht.1, e3 at_ hlt, q0, q1, fun eb he => ?_⟩
  refine he.lit hlt (fun x hx => ?_)
  obtain ⟨i, hi, rfl⟩ := List.getElem_of_mem hx
  have := h.byt i hi
  simpa [nth, hi] using this
theorem De.code1 (h : De B bw bm g1 g2 cap data ao w bs at_) (S X Y : Nat) (hS : S < 288) (hXY : tnth Fo.tabF S = (X, Y)) : w.cell? ⟨g1, S * 2, none⟩ = some (.int .i64 (X : Nat)) ∧ w.cell? ⟨g1, S * 2 + 1, none⟩ = some (.int .i64 (Y : Nat)) := by
  have := h.r1.cellsAt S (by rw [tabF_len]; exact hS)
  rw [hXY] at this; exact this
theorem De.code2 (h : De B bw bm g1 g2 cap data ao w bs at_) (S X Y : Nat) (hS : S < 32) (hXY : tnth Fo.tadF S = (X, Y)) : w.cell? ⟨g2, S * 2, none⟩ = some (.int .i64 (X : Nat)) ∧ w.cell? ⟨g2, S * 2 + 1, none⟩ = some (.int .i64 (Y : Nat)) := by
  have := h.r2.cellsAt S (by rw [tadF_len]; exact hS)
  rw [hXY] at this; exact this
theorem Kept.two {e B : Nat} {a b : World} (h : Kept e B [bw] a b) : Kept e B [bw, bm] a b := h.mono (fun k hk => by simp at hk; simp [hk])
theorem kept_of {e B : Nat} {S : List Nat} {a b : World} (h : Below a.heap.size a b) : Kept e B S a b := Kept.thenBelow (Kept.refl _ _ _ _) h
theorem tadF_five : ∀ s : Fin 30, (tnth Fo.tadF s.val).2 ≤ 5 := by decide +kernel
theorem dist_one : Fo.distSpan (Fo.distSym 1) = (1, 0) := by decide +kernel
theorem pair_ex {α β : Type} (x : α × β) : ∃ a b, x = (a, b) := ⟨x.1, x.2, rfl⟩
/-- What is put for bytes that stood already. -/
theorem copy_prep {l d : Nat} (m1 : 3 ≤ l) (m2 : l ≤ 258) (m3 : 1 ≤ d) (m4 : d ≤ 32768) (m5 : d ≤ at_) (m6 : at_ + l ≤ data.length) (m7 : ∀ i, i < l → nth data (at_ + i) = nth data (at_ - d + i)) :
    ∃ S X Y x1 x2 D X2 Y2 y1 y2 : Nat, Fo.lenSym l = S ∧ Fo.distSym d = D ∧ 257 ≤ S ∧ S ≤ 285 ∧ D ≤ 29 ∧ tnth Fo.tabF S = (X, Y) ∧ tnth Fo.tadF D = (X2, Y2) ∧ Fo.lenSpan S = (x1, x2) ∧ Fo.distSpan D = (y1, y2) ∧
      (X < 1024 ∧ Y ≤ 9 ∧ X2 < 1024 ∧ Y2 ≤ 5 ∧ x1 ≤ l ∧ x2 ≤ 5 ∧ y1 ≤ d ∧ y2 ≤ 13 ∧ (d = 1 → y2 = 0)) ∧
      (∀ eb, Fo.Enc data at_ eb → Fo.Enc data (at_ + l) (eb ++ (Fo.highBits X Y ++ (Fo.numBits x2 (l - x1) ++ (Fo.highBits X2 Y2 ++ Fo.numBits y2 (d - y1)))))) := by
  obtain ⟨a1, a2, a3, _⟩ := Fo.lenSym_ok ⟨l - 3, by omega⟩
  simp only [show l - 3 + 3 = l by omega] at a1 a2 a3
  obtain ⟨b1, b2, _⟩ := Fo.distSym_ok d m3 m4
  have l1 := lenSpan_le ⟨Fo.lenSym l, by omega⟩ a1
  have l2 := distSpan_le ⟨Fo.distSym d, by omega⟩
  have t1 := tabF_le ⟨Fo.lenSym l, by omega⟩
  have t2 := tadF_le ⟨Fo.distSym d, by omega⟩
  have t5 := tadF_five ⟨Fo.distSym d, by omega⟩
  simp only [] at l1 l2 t1 t2 t5
  obtain ⟨X, Y, hXY⟩ := pair_ex (tnth Fo.tabF (Fo.lenSym l))
  obtain ⟨X2, Y2, hXY2⟩ := pair_ex (tnth Fo.tadF (Fo.distSym d))
  obtain ⟨x1, x2, hx⟩ := pair_ex (Fo.lenSpan (Fo.lenSym l))
  obtain ⟨y1, y2, hy⟩ := pair_ex (Fo.distSpan (Fo.distSym d))
  have hcb : Fo.copyBits l d = Fo.highBits X Y ++ (Fo.numBits x2 (l - x1) ++ (Fo.highBits X2 Y2 ++ Fo.numBits y2 (d - y1))) := by
    unfold Fo.copyBits
    rw [codeBits_eq, codeBits_eq, hXY, hXY2, hx, hy]
  rw [hXY] at t1
  rw [hXY2] at t2 t5
  rw [hx] at l1 a3
  rw [hy] at l2 b2
  refine ⟨Fo.lenSym l, X, Y, x1, x2, Fo.distSym d, X2, Y2, y1, y2, rfl, rfl, a1, a2, b1, hXY, hXY2, hx, hy, ⟨t1.1, t1.2, t2.1, t5, a3, l1.1, b2, l2.1, fun hd => by subst hd; rw [dist_one] at hy; cases hy; rfl⟩, fun eb he => ?_⟩
  rw [← hcb]
  exact he.copy l d m1 m2 m3 m4 m5 m6 m7
set_option maxRecDepth 100000 in
set_option maxHeartbeats 4000000 in
theorem dpart_ok (h : De B bw bm g1 g2 cap data ao w bs at_) (hlt : at_ < data.length) (hl : bs.length + 100 ≤ 1099511627776) :
    Calls Tryz.prog 204 #[.pointer (some ⟨bw, 0, none⟩)] w fun e w' => e = .returned (.tuple #[]) ∧ PartDone B bw bm g1 g2 cap data ao w bs at_ w' := by
  have HM := hide (match_ok h)
  have H := hide h
  have hlen := h.len
  clear h
  go_enter Tryz.func204, Tryz.ntmps204
  go_wp2_with fail
  refine HM.out.mono ?_
  rintro e w1 ⟨l, d, rfl, b1, hal, hm⟩
  have HAL := hide hal
  clear hal
  have H1 := hide (H.out.below b1)
  have B1 := hide b1
  clear HM H b1
  rcases hm with rfl | ⟨m1, m2, m3, m4, m5, m6, m7⟩
  · obtain ⟨b, o, s, X, Y, rfl, hb, hs, hY, hX, d0, q0, q1, henc⟩ := lit_le H1.out hlt
    have HEN := hide henc
    obtain ⟨c2, c3, _, c5, _, hbw, hbl, _⟩ := H1.out.cells
    have hlc := H1.out.lc
    clear henc
    have HC := hide (wcode_ok (w := w1.drew) (H1.out.wx.drew) (X, Y) (by show X < _; omega) (by show Y ≤ _; omega) (by show _ + Y ≤ _; omega))
    unfold codeVal at HC
    go_wp2_with fail
    go_region_with (go_at_call 205; refine HC.out.mono ?_; rintro e w2 ⟨rfl, hx2, k2⟩)
    all_goals (
      have H2 := hide (De.write H1.out.drew k2 hx2)
      have K2 := hide (((kept_of (e := 5) (B := B) (S := [bw, bm]) B1.out).drew).trans (Kept.two k2))
      clear HC H1 B1 c2 c3 c5 q0 q1 d0 hx2 k2
      go_wp2_with fail
      refine (step_ok 1 H2.out (by omega)).mono ?_
      rintro e w3 ⟨rfl, h3, k3⟩
      go_wp2
      refine bodyPost_ret (v := .tuple #[]) (by simp [results, Tryz.results204, go_sem]) rfl ⟨rfl, _, 1, by omega, by omega, h3, HEN.out, by rw [highBits_length]; omega, fun ha => Or.inl ⟨rfl, by rw [highBits_length]; exact hY, by
        rcases Nat.eq_zero_or_pos at_ with c | c
        · exact Or.inl c
        · refine Or.inr (Nat.lt_of_not_le fun c3 => ?_)
          have := (HAL.out ha c c3).1
          omega⟩, K2.out.trans k3⟩)
  · have e0 : ((l : Int) == 0) = false := by simp; omega
    obtain ⟨S, X, Y, x1, x2, D, X2, Y2, y1, y2, hS, hD, a1, a2, a3, tXY, tXY2, sx, sy, hnum, henc⟩ := copy_prep (data := data) m1 m2 m3 m4 m5 m6 m7
    have HEN := hide henc
    have HT1 := hide tXY
    have HT2 := hide tXY2
    have NUM := hide hnum
    have HLS := hide (lengthSymbol_ok l m1 m2)
    have HLD := hide (distanceSymbol_ok d m3 m4)
    have HSP := hide (lengthSpan_ok S a1 a2)
    have HSD := hide (distanceSpan_ok D a3)
    rw [hS] at HLS
    rw [hD] at HLD
    rw [sx] at HSP
    rw [sy] at HSD
    clear henc tXY tXY2 hnum sx sy hS hD m7
    go_wp2_with fail
    refine (HLS.out _).mono ?_
    rintro e w2 ⟨rfl, b2⟩
    have H2 := hide (H1.out.below b2)
    have B2 := hide (B1.out.trans (b2.mono B1.out.size))
    clear H1 B1 b2 HLS
    have H2d := hide (H2.out.drew)
    obtain ⟨_, _, _, c5, _, hbw, hbl, _⟩ := H2.out.cells
    obtain ⟨q0, q1⟩ := H2.out.code1 S X Y (by omega) HT1.out
    have HC := hide (wcode_ok (w := w2.drew) H2d.out.wx (X, Y) (by have := NUM.out; show X < _; omega) (by have := NUM.out; show Y ≤ _; omega) (by have := NUM.out; show _ + Y ≤ _; omega))
    unfold codeVal at HC
    go_wp2_with fail
    go_region_with (go_at_call 205; refine HC.out.mono ?_; rintro e w3 ⟨rfl, hx3, k3⟩)
    have H3 := hide (De.write H2d.out k3 hx3)
    have K3 := hide (((kept_of (e := 5) (B := B) (S := [bw, bm]) B2.out).drew).trans (Kept.two k3))
    clear HC H2 H2d B2 c5 q0 q1 hx3 k3 hbw hbl
    go_wp2_with fail
    refine (HSP.out _).mono ?_
    rintro e w4 ⟨rfl, o4, rfl⟩
    go_wp2_with fail
    refine (dwithin_ok (H3.out.alloc o4).wx (x1, x2) l (by have := NUM.out; show x1 ≤ _; omega) (by have := NUM.out; show x2 ≤ _; omega) (by omega) (by have := NUM.out; rw [List.length_append, highBits_length]; show _ + Y + _ ≤ _; omega)).mono ?_
    rintro e w5 ⟨rfl, hx5, k5⟩
    have H5 := hide (De.write (H3.out.alloc o4) k5 hx5)
    have K5 := hide ((K3.out.alloc o4).trans (Kept.two k5))
    clear H3 K3 hx5 k5 HSP
    go_wp2_with fail
    refine (HLD.out _).mono ?_
    rintro e w6 ⟨rfl, b6⟩
    have H6 := hide ((H5.out.below b6).drew)
    have H6' := hide (H5.out.below b6)
    have K6 := hide ((Kept.thenBelow K5.out b6).drew)
    clear H5 K5 b6 HLD
    obtain ⟨_, _, _, _, c6, hbw, hbl, _⟩ := H6'.out.cells
    obtain ⟨q0, q1⟩ := H6'.out.code2 D X2 Y2 (by omega) HT2.out
    have HC := hide (wcode_ok (w := w6.drew) H6.out.wx (X2, Y2) (by have := NUM.out; show X2 < _; omega) (by have := NUM.out; show Y2 ≤ _; omega) (by have := NUM.out; simp only [List.length_append, highBits_length, Fo.numBits_length]; omega))
    unfold codeVal at HC
    go_wp2_with fail
    go_region_with (go_at_call 205; refine HC.out.mono ?_; rintro e w7 ⟨rfl, hx7, k7⟩)
    have H7 := hide (De.write H6.out k7 hx7)
    have K7 := hide (K6.out.trans (Kept.two k7))
    clear HC H6 H6' K6 c6 q0 q1 hx7 k7 hbw hbl
    go_wp2_with fail
    refine (HSD.out _).mono ?_
    rintro e w8 ⟨rfl, o8, rfl⟩
    go_wp2_with fail
    refine (dwithin_ok (H7.out.alloc o8).wx (y1, y2) d (by have := NUM.out; show y1 ≤ _; omega) (by have := NUM.out; show y2 ≤ _; omega) (by omega) (by have := NUM.out; simp only [List.length_append, highBits_length, Fo.numBits_length]; omega)).mono ?_
    rintro e w9 ⟨rfl, hx9, k9⟩
    have H9 := hide (De.write (H7.out.alloc o8) k9 hx9)
    have K9 := hide ((K7.out.alloc o8).trans (Kept.two k9))
    clear H7 K7 hx9 k9 HSD
    go_wp2_with fail
    refine (step_ok l H9.out m6).mono ?_
    rintro e w10 ⟨rfl, h10, k10⟩
    go_wp2
    go_end0
    refine ⟨rfl, _, l, by omega, m6, ?_, HEN.out, ?_, fun ha => Or.inr ?_, K9.out.trans k10⟩
    · simpa only [List.append_assoc] using h10
    · have := NUM.out
      simp only [List.length_append, highBits_length, Fo.numBits_length]; omega
    · obtain ⟨u1, u2⟩ := HAL.out ha (by omega) (by omega)
      obtain ⟨_, v1, _, v2, _, v3, _, _, v4⟩ := NUM.out
      refine ⟨u1, by omega, ?_⟩
      have := v4 u2
      simp only [List.length_append, highBits_length, Fo.numBits_length]; omega
end Go.Proofs.YtgkljcmjnphpeaaGreatDoor
namespace Go.Proofs.YtgkljcmjnphpeaaGreatDoor
open Go.RowKit
variable {w : World} {B bw bm g1 g2 cap T : Nat} {data : List Nat} {ao : Option Addr} {bs : List Bool} {at_ : Nat} {rest : List Value}
theorem run_build71 (ao : Option Addr) (n c m a x1 x2 b y1 y2 : Nat) (W : World) : (Instr.build 194 #[(1, .slice ao n c), (3, .map (some m)), (4, .slice (some ⟨a, 0, none⟩) x1 x2), (5, .slice (some ⟨b, 0, none⟩) y1 y2)]).run Tryz.prog W = .ok (.agg #[.slice none 0 0, .int .i64 0, .slice ao n c, .int .i64 0, .map (some m), .slice (some ⟨a, 0, none⟩) x1 x2, .slice (some ⟨b, 0, none⟩) y1 y2]) W := by kernel_rfl
theorem wpList_build4 {P : Program} {w : World} {ops : Array Oper} {rest : List Oper} {o : Oper} {a : Act} {Q : Exit → Act → World → Prop} (hgd : o.guard = none) (t i j k l : Nat) (x y z u : Operand) (ho : o.op = .build t #[(i, x), (j, y), (k, z), (l, u)])
    (vx vy vz vu v : Value) (hx : a.eval x = vx) (hy : a.eval y = vy) (hz : a.eval z = vz) (hu : a.eval u = vu) (hrun : ∀ W, (Instr.build t #[(i, vx), (j, vy), (k, vz), (l, vu)]).run P W = .ok v W) (h : wpList P ops Q rest (a.put o.dst v) w) : wpList P ops Q (o :: rest) a w := by
  refine wpList_plain hgd fun K hK => ?_
  unfold Oper.wp
  simp [execOp, ho, hx, hy, hz, hu, hrun, Result.andThen]
  exact hK _ _ h
theorem fixedCells_one (g1 g2 : Nat) : (fixedCells g1 g2).toArray.all (·.oneCell') = true := by
  unfold fixedCells ints
  simp [Value.oneCell']
set_option maxRecDepth 100000 in
set_option maxHeartbeats 2000000 in
theorem newDeflater_ok (hd : Dat w B ao data) (hB : B ≤ w.heap.size) (byt : ∀ i, i < data.length → nth data i < 256) (len : data.length ≤ 1000000) (lc : data.length ≤ cap ∧ cap ≤ 9223372036854775807) :
    Calls Tryz.prog 202 #[.slice ao data.length cap] w fun e w' => ∃ bw bm g1 g2, e = .returned (.pointer (some ⟨bw, 0, none⟩)) ∧ De w.heap.size bw bm g1 g2 cap data ao w' [] 0 ∧ Below w.heap.size w w' := by
  have hmm := @run_makeMap Tryz.prog
  have HD := hide hd
  have BYT := hide byt
  clear hd byt
  go_enter Tryz.func202, Tryz.ntmps202
  go_wp2_with fail
  refine fixedCodes_ok.mono ?_
  rintro e w1 ⟨q1, q2, rfl, i1, i2, b1, n1, n2⟩
  have hone := fixedCells_one q1 q2
  have hlen := fixedCells_length q1 q2
  generalize hF : fixedCells q1 q2 = F at *
  have HF := hide hF
  clear hF
  have hszA : F.toArray.size = 34 := List.size_toArray.trans hlen
  have hi34 : Hid ((Tryz.prog.info? 164).map (·.size) = some F.toArray.size) := by unfold Hid; rw [hszA]; kernel_rfl
  have ht34 : Hid ((w1.alloc zero34).there w1.heap.size 0 F.toArray.size) := by unfold Hid; rw [hszA]; exact there34 (blk_new _ _)
  have HW2 : Hid (∃ W2, (w1.alloc zero34).setCells w1.heap.size 0 F = W2) := ⟨_, rfl⟩
  have l1 : q1 < w1.heap.size := by obtain ⟨c, fz, hb, _⟩ := i1; exact lt_of_block hb
  have l2 : q2 < w1.heap.size := by obtain ⟨c, fz, hb, _⟩ := i2; exact lt_of_block hb
  have HC2 : Hid (CdF ((w1.alloc zero34).setCells w1.heap.size 0 F) w1.heap.size ∧ CdD ((w1.alloc zero34).setCells w1.heap.size 0 F) w1.heap.size) := by
    rw [← HF.out] at hlen ⊢
    have ba : Below w1.heap.size w1 (w1.alloc zero34) := (Below.refl _ _).alloc (Nat.le_refl _) _
    exact fixed_cd (setCells_whole (blk_new w1 zero34) (by rw [hlen]; rfl)) ((i1.below ba).setCells (by omega)) ((i2.below ba).setCells (by omega))
  have HB2 : Hid (Below w.heap.size w ((w1.alloc zero34).setCells w1.heap.size 0 F)) := setCells_below _ _ b1.size _ _ _ _ (b1.alloc b1.size _)
  clear i1 i2 b1 l1 l2 HF hlen hszA
  go_wp2_with (refine wpList_store_mid (by rfl) 164 (.tmp 3) (.tmp 4) (by rfl) w1.heap.size 0 F.toArray (by rfl) (by rfl) ht34.out hi34.out hone ?_)
  generalize hW2 : World.setCells (w1.alloc _) w1.heap.size 0 F = W2
  have HCF : Hid (CdF W2 w1.heap.size ∧ CdD W2 w1.heap.size) := by rw [← hW2]; exact HC2.out
  have HBW : Hid (Below w.heap.size w W2) := by rw [← hW2]; exact HB2.out
  clear hW2 HC2 HB2 HW2 ht34 hi34 hone
  have ba : Below W2.heap.size W2 (W2.alloc (.map #[] 0)) := (Below.refl _ _).alloc (Nat.le_refl _) _
  have hmap : (W2.alloc (.map #[] 0)).heap[W2.heap.size]? = some (.map #[] 0) := blk_new _ _
  have HCA := hide (HCF.out.1.below ba)
  have HCB := hide (HCF.out.2.below ba)
  have HBA := hide (HBW.out.trans (ba.mono HBW.out.size))
  have hlt2 : W2.heap.size < (W2.alloc (.map #[] 0)).heap.size := by simp
  have hle2 := HBW.out.size
  generalize hW3 : W2.alloc (.map #[] 0) = W3 at *
  generalize hbm : W2.heap.size = m at *
  clear hW3 hbm ba HCF HBW
  refine (bySymF _ HCA.out).mono ?_
  rintro e w3 ⟨rfl, r1, b3⟩
  have HCB3 := hide (HCB.out.below b3)
  have HB3 := hide (HBA.out.trans (b3.mono HBA.out.size))
  have hs3 := b3.size
  have hmap3 : w3.heap[m]? = some (.map #[] 0) := by rw [b3.block _ hlt2]; exact hmap
  have hA := HBA.out.size
  clear HCA HCB HBA b3 hmap
  have R1 := hide r1
  clear r1
  have lr1 : W3.heap.size < w3.heap.size := by obtain ⟨C, hb, _⟩ := R1.out; exact lt_of_block hb
  go_wp2_with fail
  refine (bySymD _ HCB3.out).mono ?_
  rintro e w4 ⟨rfl, r2, b4⟩
  have R2 := hide r2
  have HB4 := hide (HB3.out.trans (b4.mono HB3.out.size))
  have R14 := hide (R1.out.below' b4)
  have hmap4 := hide (show w4.heap[m]? = some (.map #[] 0) by rw [b4.block _ (by omega)]; exact hmap3)
  have hs4 := b4.size
  clear r2 b4 R1 HB3 hmap3 HCB3
  generalize W3.heap.size = gg1 at *
  generalize hgg2 : w3.heap.size = gg2 at *
  clear hgg2
  have hbuild := hide (run_build71 ao data.length cap m gg1 288 288 gg2 32 32)
  have tokb : True := trivial
  go_wp2_with (have _t := tokb; refine wpList_build4 (by rfl) 194 1 3 4 5 (.tmp 5) (.tmp 6) (.tmp 8) (.tmp 10) (by rfl) _ _ _ _ _ (by rfl) (by rfl) (by rfl) (by rfl) hbuild.out ?_; clear tokb)
  go_ret
  have ba : Below w4.heap.size w4 (w4.alloc (.cells #[.slice none 0 0, .int .i64 0, .slice ao data.length cap, .int .i64 0, .map (some m), .slice (some ⟨gg1, 0, none⟩) 288 288, .slice (some ⟨gg2, 0, none⟩) 32 32] 194)) := (Below.refl _ _).alloc (Nat.le_refl _) _
  refine ⟨w4.heap.size, m, gg1, gg2, rfl, ?_, HB4.out.trans (ba.mono HB4.out.size)⟩
  have hss := HB4.out.size
  refine ⟨⟨.slice none 0 0, [], 0, ⟨hss, by decide, blk_new _ _, World.ownsRow_nil _ _ _ _⟩, Fo.BW.nil⟩, ?_, BYT.out, len, lc, Nat.zero_le _, ?_, R14.out.below' ba, R2.out.below' ba, hle2⟩
  · intro i hi
    obtain ⟨b, o, e1, e2, e3⟩ := HD.out i hi
    exact ⟨b, o, e1, by omega, ((HB4.out.trans (ba.mono HB4.out.size)).cell (p := ⟨b, o + i, none⟩) (by show b < _; omega)).trans e3⟩
  · exact ⟨#[], 0, blk_alloc _ hmap4.out, by simp, fun _ => ⟨by simp, fun p hp _ => absurd hp (by omega)⟩⟩
end Go.Proofs.YtgkljcmjnphpeaaGreatDoor
namespace Go.Proofs.YtgkljcmjnphpeaaGreatDoor
open Go.RowKit
variable {w : World} {B bw bm g1 g2 cap T : Nat} {data : List Nat} {ao : Option Addr} {bs : List Bool} {at_ : Nat} {rest : List Value}
/-- Where a deflater stands. -/
def atOf (bw : Nat) (w : World) : Nat := (intOf ((w.cell? ⟨bw, 3, none⟩).getD undef)).toNat
theorem De.atOf (h : De B bw bm g1 g2 cap data ao w bs at_) : atOf bw w = at_ := by unfold Go.Proofs.YtgkljcmjnphpeaaGreatDoor.atOf; rw [h.cells.2.1]; simp [intOf]
/-- The bits of a block of the fixed codes. -/
def fixedBits (eb : List Bool) : List Bool := true :: (Fo.numBits 2 1 ++ (eb ++ Fo.codeBits Fo.tabF 256))
theorem code256 : tnth Fo.tabF 256 = (0, 7) := by decide +kernel
theorem fixedBits_eq (eb : List Bool) : (Fo.numBits 1 1 ++ Fo.numBits 2 1 ++ eb) ++ Fo.highBits 0 7 = fixedBits eb := by
  unfold fixedBits
  rw [codeBits_eq, code256, List.append_assoc, List.append_assoc]; rfl
/-- What may still come, of bytes that are all the same. -/
def moreBits (n a : Nat) : Nat := 19 * ((n - a + 257) / 258) + 9 * min 2 (n - a) + (if a = 0 then 9 else 0)
theorem moreBits_lit {n a k : Nat} (hk : k ≤ 9) (ha : a < n) (h : a = 0 ∨ n < a + 3) : k + moreBits n (a + 1) ≤ moreBits n a := by
  unfold moreBits
  rw [if_neg (show ¬ a + 1 = 0 by omega)]
  rcases h with rfl | h
  · simp only [if_true]
    have : (n - (0 + 1) + 257) / 258 ≤ (n - 0 + 257) / 258 := Nat.div_le_div_right (by omega)
    omega
  · have : (n - (a + 1) + 257) / 258 ≤ (n - a + 257) / 258 := Nat.div_le_div_right (by omega)
    omega
theorem moreBits_copy {n a k : Nat} (hk : k ≤ 19) (ha : a < n) (h0 : 0 < a) : k + moreBits n (a + min 258 (n - a)) ≤ moreBits n a := by
  unfold moreBits
  rw [if_neg (show ¬ a = 0 by omega), if_neg (show ¬ a + min 258 (n - a) = 0 by omega)]
  rcases Nat.lt_or_ge (n - a) 258 with h | h
  · rw [Nat.min_eq_right (by omega), show n - (a + (n - a)) = 0 by omega]
    omega
  · rw [Nat.min_eq_left h]
    omega
set_option maxRecDepth 100000 in
set_option maxHeartbeats 2000000 in
theorem dcoded_ok (hd : Dat w B ao data) (hB : B ≤ w.heap.size) (byt : ∀ i, i < data.length → nth data i < 256) (len : data.length ≤ 1000000) (lc : data.length ≤ cap ∧ cap ≤ 9223372036854775807) :
    Calls Tryz.prog 147 #[.slice ao data.length cap] w fun e w' => ∃ (ov : Value) (out : List Nat) (used : Nat) (eb : List Bool), e = .returned ov ∧ w'.ownsRow w.heap.size 5 1 ov out.length (out.map fun x : Nat => .int .u8 (x : Int)) ∧ Below w.heap.size w w' ∧ Fo.BW out used (fixedBits eb) ∧ Fo.Enc data data.length eb ∧ eb.length ≤ 40 * data.length ∧ (Alike data → eb.length ≤ 27 + 19 * ((data.length + 257) / 258)) := by
  have HN := hide (newDeflater_ok hd hB byt len lc)
  clear hd byt
  go_enter Tryz.func147, Tryz.ntmps147
  go_wp2_with fail
  refine HN.out.mono ?_
  rintro e w1 ⟨bw, bm, g1, g2, rfl, h1, b1⟩
  have H1 := hide h1
  have B1 := hide b1
  clear h1 b1 HN
  go_wp2_with fail
  refine (wbits_ok H1.out.wx 1 1 (by omega) (by omega) (by simp)).mono ?_
  rintro e w2 ⟨rfl, hx2, k2⟩
  have H2 := hide (De.write H1.out k2 hx2)
  have K2 := hide k2
  clear H1 hx2 k2
  go_wp2_with fail
  refine (wbits_ok H2.out.wx 1 2 (by omega) (by omega) (by simp [Fo.numBits_length])).mono ?_
  rintro e w3 ⟨rfl, hx3, k3⟩
  have H3 := hide (De.write H2.out k3 hx3)
  have K3 := hide (show Kept 5 w.heap.size [bw, bm] w1 w3 from Kept.two (K2.out.trans k3))
  have hs1 := B1.out.size
  have hbwbm : w.heap.size ≤ bw ∧ w.heap.size ≤ bm := ⟨H2.out.cells.2.2.2.2.2.1, H2.out.hbm⟩
  clear H2 hx3 k3 K2
  go_wp2
  go_loopw [14] (fun _ wr => ∃ (a : Nat) (eb : List Bool), De w.heap.size bw bm g1 g2 cap data ao wr (Fo.numBits 1 1 ++ Fo.numBits 2 1 ++ eb) a ∧ Hid (Fo.Enc data a eb ∧ eb.length ≤ 40 * a ∧ (Alike data → eb.length + moreBits data.length a ≤ moreBits data.length 0)) ∧ Kept 5 w.heap.size [bw, bm] w1 wr) (fun _ wr => data.length - atOf bw wr)
  case atStart => exact ⟨0, [], by simpa using H3.out, hide ⟨.nil, by simp, fun _ => by simp⟩, K3.out⟩
  case round =>
    obtain ⟨a, eb, hf, HE, kk⟩ := hrel
    have HF := hide hf
    have KK := hide kk
    have hm := hide hf.atOf
    have hle := hf.hat
    obtain ⟨_, c3, _, c5, _, _, hbl, _⟩ := hf.cells
    clear hf kk
    have hebl := HE.out.2.1
    by_cases hlt : a < data.length
    · have hlt' : (a : Int) < data.length := by omega
      go_wp2_with fail
      refine (dpart_ok HF.out hlt (by simp only [List.length_append, Fo.numBits_length]; omega)).mono ?_
      rintro e w4 ⟨rfl, p, n, hn, hal, h4, henc, hpl, hali, k4⟩
      have HALI := hide hali
      clear hali
      have hm4 := hide h4.atOf
      go_wp2
      go_roundw
      case rel => exact ⟨a + n, eb ++ p, by simpa only [List.append_assoc] using h4, hide ⟨henc _ HE.out.1, by rw [List.length_append]; omega, fun ha => by
        have h0 := HE.out.2.2 ha
        rw [List.length_append]
        rcases HALI.out ha with ⟨rfl, hp9, hor⟩ | ⟨rfl, hpos, hp9⟩
        · have := moreBits_lit hp9 hlt hor
          omega
        · have := moreBits_copy hp9 hlt hpos
          omega⟩, KK.out.trans k4⟩
      case measure => rw [hm.out, hm4.out]; omega
    · obtain rfl : a = data.length := by omega
      obtain ⟨q0, q1⟩ := HF.out.code1 256 0 7 (by omega) code256
      have HFd := hide HF.out.drew
      have HC := hide (wcode_ok (w := wr.drew) HFd.out.wx (0, 7) (by show 0 < _; omega) (by show 7 ≤ _; omega) (by simp only [List.length_append, Fo.numBits_length]; omega))
      unfold codeVal at HC
      simp only [] at HC
      rw [fixedBits_eq] at HC
      go_wp2_with fail
      go_region_with (go_at_call 205; refine HC.out.mono ?_; rintro e w4 ⟨rfl, hx4, k4⟩)
      all_goals (
        obtain ⟨ov, out, used, hq, hb⟩ := hx4
        have c0 := hq.c0
        go_wp2
        go_ret
        exact ⟨ov, out, used, eb, rfl, hq.own, B1.out.trans (((KK.out.drew).trans (Kept.two k4)).below hs1 (by simp; omega)), hb, HE.out.1, HE.out.2.1, fun ha => by
          have h0 : eb.length ≤ moreBits data.length 0 := by have := HE.out.2.2 ha; omega
          unfold moreBits at h0
          rw [if_pos rfl] at h0
          omega⟩)
end Go.Proofs.YtgkljcmjnphpeaaGreatDoor
namespace Go.Proofs.YtgkljcmjnphpeaaGreatDoor
open Go.RowKit
variable {w : World} {B bw cap T : Nat} {data : List Nat} {ao : Option Addr} {bs : List Bool} {rest : List Value}
theorem nth_lt_mem {l : List Nat} (h : ∀ i, i < l.length → nth l i < 256) : ∀ x ∈ l, x < 256 := by
  intro x hx
  obtain ⟨i, hi, rfl⟩ := List.getElem_of_mem hx
  have := h i hi
  simpa [nth, hi] using this
set_option maxRecDepth 100000 in
set_option maxHeartbeats 2000000 in
/-- Bytes appended to a writer that stands at a byte. -/
theorem storedBlock_ok (h : Wx B bw 190 [] w bs) (last : Nat) (hlast : last ≤ 1) (hd : Dat w B ao data) (byt : ∀ i, i < data.length → nth data i < 256) (len : data.length ≤ 65535) (hn : ao = none → cap = 0) (hl : bs.length ≤ 4000000) :
    Calls Tryz.prog 206 #[.pointer (some ⟨bw, 0, none⟩), .int .i64 last, .slice ao data.length cap] w fun e w' => e = .returned (.tuple #[]) ∧
      Wx B bw 190 [] w' (bs ++ Fo.numBits 1 last ++ Fo.numBits 2 0 ++ List.replicate ((8 - (bs ++ Fo.numBits 1 last ++ Fo.numBits 2 0).length % 8) % 8) false ++ Fo.numBits 16 data.length ++ Fo.numBits 16 (65535 - data.length) ++ Fo.bitsOf data) ∧ Kept 5 B [bw] w w' := by
  obtain ⟨i0, hi, hz0, hz1, hz2⟩ := info_parts Tryz.infoByte
  have hbw : B ≤ bw := by obtain ⟨_, _, _, hq, _⟩ := h; exact hq.hb
  have HD := hide hd
  have BYT := hide byt
  clear hd byt
  go_enter Tryz.func206, Tryz.ntmps206
  go_wp2_with fail
  refine (wbits_ok h last 1 (by omega) (by omega) (by omega)).mono ?_
  rintro e w1 ⟨rfl, h1, k1⟩
  go_wp2_with fail
  refine (wbits_ok h1 0 2 (by omega) (by omega) (by simp only [List.length_append, Fo.numBits_length]; omega)).mono ?_
  rintro e w2 ⟨rfl, h2, k2⟩
  go_wp2_with fail
  refine (walign_ok h2).mono ?_
  rintro e w3 ⟨rfl, h3, k3⟩
  have hlen3 : (bs ++ Fo.numBits 1 last ++ Fo.numBits 2 0 ++ List.replicate ((8 - (bs ++ Fo.numBits 1 last ++ Fo.numBits 2 0).length % 8) % 8) false).length ≤ 4000100 ∧ (bs ++ Fo.numBits 1 last ++ Fo.numBits 2 0 ++ List.replicate ((8 - (bs ++ Fo.numBits 1 last ++ Fo.numBits 2 0).length % 8) % 8) false).length % 8 = 0 := by
    simp only [List.length_append, Fo.numBits_length, List.length_replicate]; omega
  generalize hcs : bs ++ Fo.numBits 1 last ++ Fo.numBits 2 0 ++ List.replicate ((8 - (bs ++ Fo.numBits 1 last ++ Fo.numBits 2 0).length % 8) % 8) false = cs at *
  have HCS := hide hcs
  clear hcs
  have kk := (k1.trans k2).trans k3
  clear h h1 h2 k1 k2 k3
  go_wp2_with fail
  refine (wbits_ok h3 data.length 16 (by omega) (by omega) (by omega)).mono ?_
  rintro e w4 ⟨rfl, h4, k4⟩
  go_wp2_with fail
  rw [show (65535 : Int) - (data.length : Int) = ((65535 - data.length : Nat) : Int) by omega]
  refine (wbits_ok h4 (65535 - data.length) 16 (by omega) (by omega) (by simp only [List.length_append, Fo.numBits_length]; omega)).mono ?_
  rintro e w5 ⟨rfl, h5, k5⟩
  have kk5 := (kk.trans k4).trans k5
  clear kk k4 k5 h3 h4
  have hal : (cs ++ Fo.numBits 16 data.length ++ Fo.numBits 16 (65535 - data.length)).length ≤ 4000200 ∧ (cs ++ Fo.numBits 16 data.length ++ Fo.numBits 16 (65535 - data.length)).length % 8 = 0 := by
    simp only [List.length_append, Fo.numBits_length]; omega
  obtain ⟨ov, out, used, hq, hb⟩ := h5
  generalize hds : cs ++ Fo.numBits 16 data.length ++ Fo.numBits 16 (65535 - data.length) = ds at *
  have HDS := hide hds
  clear hds
  have hol : out.length ≤ 600000 := by have := bw_len hb; omega
  obtain rfl : used = 0 := by rw [← hb.2.1]; exact hal.2
  have HDK := hide (HD.out.kept kk5 (by simpa using hbw))
  have HBB := hide (hb.bytes data (nth_lt_mem BYT.out))
  have c0 := hq.c0
  have hsz := hq.sz
  have KK5 := hide kk5
  clear kk5 hb HD
  cases ao with
  | none =>
    obtain rfl := hn rfl
    have h0 : data = [] := by
      cases hdd : data with
      | nil => rfl
      | cons x xs =>
        obtain ⟨b, o, e1, _⟩ := HDK.out 0 (by rw [hdd]; simp)
        cases e1
    subst h0
    have f0 := hq.fz 0
    obtain ⟨a1, c1, rfl⟩ := own_slice hq.own
    have HQ := hide hq
    clear hq hn
    go_wp2_with (at_builtin; refine wpList_append_own_none rfl (.tmp 26) (.tmp 27) 23 rfl B 5 i0 1 Tryz.underlying23 hi (.slice a1 out.length c1) out.length _ rfl HQ.out.own rfl ?_)
    go_end0
    refine ⟨rfl, ?_, (KK5.out).setCell (by simp) _⟩
    rw [HCS.out, HDS.out]
    refine ⟨.slice a1 out.length c1, out ++ [], 0, ⟨HQ.out.hb, HQ.out.hT, ?_, ?_⟩, HBB.out⟩
    · rw [blk_setCell _ HQ.out.blk]; simp
    · rw [List.append_nil]; exact ownsRow_setCell_other HQ.out.own (own_ne HQ.out.own HQ.out.blk HQ.out.hT) _
  | some ad =>
    have HQ := hide hq
    obtain ⟨a1, c1, rfl⟩ := own_slice hq.own
    clear hq hn
    go_wp2_with (at_builtin; refine wpList_append_own _ rfl (.tmp 26) (.tmp 27) 23 rfl B 5 i0 (.int .u8 0) 1 1 Tryz.underlying23 hi hz0 hz1 hz2 rfl (by decide) (.slice a1 out.length c1) out.length _ rfl HQ.out.own ad data.length cap (data.map fun x : Nat => .int .u8 (x : Int)) rfl (by simp) ?hnews ?hone ?h63 ?hby ?hbs ?_)
    case hnews =>
      intro j u hu
      obtain ⟨hj, rfl⟩ := List.getElem?_eq_some_iff.1 hu
      rw [List.length_map] at hj
      obtain ⟨b, o, e1, _, e3⟩ := HDK.out j hj
      cases e1
      rw [addr_add2, e3]
      simp [nth, hj]
    case hone => intro u hu; simp at hu; obtain ⟨x, _, rfl⟩ := hu; rfl
    case h63 => unfold maxLen; omega
    case hby => omega
    case hbs => omega
    intro v' w6 hown hg0 _
    obtain ⟨a2, c2, rfl⟩ := own_slice hown
    obtain ⟨q, k, d0, f0⟩ := HQ.out.app (xs := data) (by simpa using hown) hg0
    have Q6 := hide q
    have K6 := hide k
    clear hown hg0 q k
    go_wp2
    go_end0
    refine ⟨rfl, ?_, KK5.out.trans K6.out⟩
    rw [HCS.out, HDS.out]
    exact ⟨_, out ++ data, 0, Q6.out, HBB.out⟩
end Go.Proofs.YtgkljcmjnphpeaaGreatDoor
